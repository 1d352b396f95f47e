import PyProof.Rows.All
import Wide.All
import OpenK.AllK
import Wide.FinOn
import HandS.ForMost
import HandS.Wide
import HandS.WideBits
import HandS.Deep
import HandS.IsInst
import HandS.TupAny
import HandS.Flow
import HandS.Walk
import HandS.Codes
import HandS.List
import HandS.FStrTup
import HandS.Ends
import HandS.Head0
import HandS.Exc
import HandS.ExcOwn
import HandS.ExcIs
import HandS.ExcField
import HandS.WordsExc
import HandS.TryMany
import PyProof.ReprRoads
import PyProof.P3In
import PyProof.FactsAll.dict_1
import PyProof.FactsAll.subtypes_4
import HandS.Defaults
import HandS.CallLocal
import HandS.StrMore
import HandS.More
import HandS.Text
import HandS.Set
import PyProof.Rows.SortShellAny
import PyProof.Rows.SetFrom
import PySem.Challenge.RW_vasttypes_k01_nodes_of_terms
set_option Elab.async false
set_option linter.all false
set_option maxRecDepth 100000
set_option maxHeartbeats 4000000
/-! steps of a reading: names, constants, ints; then the facts of the context -/
local macro_rules | `(tactic| walk_at "ne") => `(tactic| first | assumption | exact Ne.symm (by assumption) | exact L2.ne_of_none (by assumption) (by assumption) | exact L2.ne_of_none L2.upd_same (by assumption) | exact Ne.symm (L2.ne_of_none L2.upd_same (by assumption)) | exact Ne.symm (L2.ne_of_none (by assumption) (by assumption)))
local macro_rules | `(tactic| walk_at "hp") => `(tactic| first | assumption | exact L2.upd_same | exact (L2.upd_ne (by walk_at "ne")).trans (by assumption) | exact (L2.upd_ne (by walk_at "ne")).trans L2.upd_same | exact (L2.upd_ne (by walk_at "ne")).trans ((L2.upd_ne (by walk_at "ne")).trans (by assumption)) | exact (L2.upd_ne (by walk_at "ne")).trans ((L2.upd_ne (by walk_at "ne")).trans L2.upd_same))
local macro_rules | `(tactic| walk_at "cn") => `(tactic| first | assumption | omega | rfl | (constructor <;> omega) | (refine .inl ?_; constructor <;> omega) | (refine .inr ?_; constructor <;> omega) | decide | (refine Vt.sz ?_; simp; done) | (refine Vt.sz ?_; simp; omega))
local macro_rules | `(tactic| walk_at "rd") => `(tactic| (repeat (first
  | refine ⟨_, rfl, ?_⟩
  | refine ⟨_, _, rfl, rfl, ?_⟩
  | refine .inl ⟨_, rfl, ?_⟩
  | (refine ⟨_, _, _, _, rfl, rfl, .inl (.inl (by walk_at "hp")), rfl, ?_⟩)
  | (refine ⟨_, _, _, _, rfl, rfl, (by walk_at "hp"), rfl, ?_⟩)
  | (refine And.intro (by walk_at "cn") ?_))))

namespace Vt
open PySem PySem.Spec PyProof.Rows L2
def topS (i : Nat) : Stmt := PySem.Challenge.pw_vasttypes_k01_nodes_of_terms.main.body.getD i (.Pass ⟨0, 0, 0, 0⟩)
/-- a def of the text that keeps a promise, wherever it stands -/
def DefOk (P : Program) (w : World) (K : PySem.W.Frag) (mg : Str → Option Value) (base : Heap) (CX : CXT) (k : Nat) (x : Str) (ps : List Str) (sp : Sp) : Prop :=
  ∃ f fd, FnOk P w K mg base CX k f fd ps sp ∧ mg x = some (.ref f) ∧ PySem.W.keepIn K (.ref f) = true ∧ Binds K fd ps []
/-- a def as it stands behind the top -/
def Stands (K : PySem.W.Frag) (mg : Str → Option Value) (x : Str) (st : Stmt) (ps : List Str) : Prop :=
  ∃ f fd, Fun K x x st f fd ∧ mg x = some (.ref f) ∧ Binds K fd ps []
/-- the built-in names mean what they meant -/
structure Blt (mg : Str → Option Value) : Prop where
  int : mg "int" = none
  len : mg "len" = none
  list : mg "list" = none
  tuple : mg "tuple" = none
  str : mg "str" = none
  bool : mg "bool" = none
  set : mg "set" = none
  isinstance : mg "isinstance" = none
  all : mg "all" = none
  sorted : mg "sorted" = none
  range : mg "range" = none
  enumerate : mg "enumerate" = none
  zip : mg "zip" = none
  reversed : mg "reversed" = none
  repr : mg "repr" = none
/-- all but what stands at s is as it was -/
def Keep (s : Addr) (H H' : Hp) : Prop := ∀ b o, b ≠ s → H b = some o → H' b = some o
/-- the state of a source of draws: a list of three ints -/
def Src (H : Hp) (s : Addr) : Prop := ∃ x y z : Int, H s = some (.lst [.int x, .int y, .int z])
theorem Keep.refl (s : Addr) (H : Hp) : Keep s H H := fun _ _ _ h => h
theorem Keep.trans {s : Addr} {H H1 H2 : Hp} (a : Keep s H H1) (b : Keep s H1 H2) : Keep s H H2 := fun c o n h => b c o n (a c o n h)
theorem Keep.wr {s : Addr} {H : Hp} {o : HO} : Keep s H (L2.upd H s o) := fun b u n h => by rw [upd_ne n]; exact h
theorem Keep.new {s p : Addr} {H : Hp} {o : HO} (h : H p = none) : Keep s H (L2.upd H p o) := fun b u n e => by rw [upd_ne (ne_of_none e h)]; exact e
theorem Keep.mut {s p : Addr} {H H' : Hp} {o : HO} (k : Keep s H H') (h : H p = none) : Keep s H (L2.upd H' p o) := fun b u n e => by rw [upd_ne (ne_of_none e h)]; exact k b u n e
theorem _root_.L2.Same.keep {s : Addr} {H H' : Hp} (h : Same H H') : Keep s H H' := fun b o _ e => h b o e
theorem Keep.same {s : Addr} {H H1 H2 : Hp} (k : Keep s H H1) (h : Same H1 H2) : Keep s H H2 := fun b o n e => h b o (k b o n e)
theorem Src.new {s p : Addr} {H : Hp} {o : HO} (h : Src H s) (hp : H p = none) : Src (L2.upd H p o) s := by
  obtain ⟨x, y, z, e⟩ := h
  exact ⟨x, y, z, by rw [upd_ne (ne_of_none e hp)]; exact e⟩
theorem Src.same {s : Addr} {H H' : Hp} (h : Src H s) (e : Same H H') : Src H' s := by
  obtain ⟨x, y, z, q⟩ := h
  exact ⟨x, y, z, e _ _ q⟩
theorem Src.ne {s p : Addr} {H : Hp} (h : Src H s) (hp : H p = none) : p ≠ s := by
  obtain ⟨x, y, z, e⟩ := h
  exact (ne_of_none e hp).symm
theorem Src.wr {s p : Addr} {H : Hp} {o : HO} (h : Src H s) (hn : p ≠ s) : Src (L2.upd H p o) s := by
  obtain ⟨x, y, z, e⟩ := h
  exact ⟨x, y, z, by rw [upd_ne hn.symm]; exact e⟩
theorem same_new {H : Hp} {p : Addr} (h : H p = none) (o : HO) : Same H (upd H p o) := fun b u q => by rw [upd_ne (ne_of_none q h)]; exact q
theorem sz {n : Nat} (h : n ≤ 1000) : n ≤ sizeLine := Nat.le_of_lt (small1000 h)
/-- not what a source looks like -/
def No3 (xs : List V) : Prop := ∀ x y z : Int, xs ≠ [.int x, .int y, .int z]
theorem No3.of_ref {xs : List V} (h : ∀ v ∈ xs, ∀ i : Int, v ≠ .int i) : No3 xs := fun x y z e => h (.int x) (by rw [e]; exact List.mem_cons_self) x rfl
theorem no3_strs (ns : List Str) : No3 (ns.map V.str) := No3.of_ref fun v hv i e => by
  obtain ⟨n, _, q⟩ := List.mem_map.mp hv
  rw [e] at q
  cases q
theorem Keep.seq {K : PySem.W.Frag} {s a : Addr} {H H' : Hp} {xs : List V} (k : Keep s H H') (hs : Src H s) (hx : No3 xs) (h : SqL K H a xs) : SqL K H' a xs := by
  obtain ⟨x, y, z, e⟩ := hs
  rcases h with (h | ⟨o, h⟩) | h
  · refine .inl (.inl (k _ _ (fun q => ?_) h))
    rw [q, e] at h
    injection h with h
    injection h with h
    exact hx x y z h.symm
  · refine .inl (.inr ⟨o, k _ _ (fun q => ?_) h⟩)
    rw [q, e] at h
    injection h with h
    cases h
  · exact .inr h
theorem Keep.tup {K : PySem.W.Frag} {s a : Addr} {H H' : Hp} {xs : List V} (k : Keep s H H') (hs : Src H s) (h : SqT K H a xs) : SqT K H' a xs := by
  obtain ⟨x, y, z, e⟩ := hs
  rcases h with (h | ⟨o, h⟩) | h
  · refine .inl (.inl (k _ _ (fun q => ?_) h))
    rw [q, e] at h
    injection h with h
    cases h
  · refine .inl (.inr ⟨o, k _ _ (fun q => ?_) h⟩)
    rw [q, e] at h
    injection h with h
    cases h
  · exact .inr h
theorem _root_.L2.Same.tupS {K : PySem.W.Frag} {a : Addr} {H H' : Hp} {xs : List V} (k : Same H H') (h : SqT K H a xs) : SqT K H' a xs := by
  rcases h with (h | ⟨o, h⟩) | h
  · exact .inl (.inl (k _ _ h))
  · exact .inl (.inr ⟨o, k _ _ h⟩)
  · exact .inr h

/-! ### terms -/
/-- what a node has but the terms within it -/
inductive Hd where
  | var (n : Str) | int (k : Int) | bool (b : Bool) | fn (n : Str) | app | lt (n : Str) | rc (n : Str) | cond | tup | part (k size : Int) | record (ls : List Str) | field (n : Str) | wth (n : Str)
inductive T where
  | node (h : Hd) (ks : List T)
abbrev T.hd : T → Hd | .node h _ => h
abbrev T.kids : T → List T | .node _ ks => ks
/-- the first word of a node -/
def Hd.word : Hd → Str
  | .var _ => "var" | .int _ => "int" | .bool _ => "bool" | .fn _ => "fun" | .app => "app" | .lt _ => "let" | .rc _ => "rec" | .cond => "if" | .tup => "tuple" | .part _ _ => "part" | .record _ => "record" | .field _ => "field" | .wth _ => "with"
/-- the value v stands for a term in the heap H: its own tuple, and the terms within it -/
inductive Tm (K : PySem.W.Frag) (H : Hp) : V → T → Prop
  | var {a n} : SqT K H a [.str "var", .str n] → Tm K H (.ref a) (.node (.var n) [])
  | int {a k} : SqT K H a [.str "int", .int k] → Tm K H (.ref a) (.node (.int k) [])
  | bool {a b} : SqT K H a [.str "bool", .bl b] → Tm K H (.ref a) (.node (.bool b) [])
  | fn {a n v t} : SqT K H a [.str "fun", .str n, v] → Tm K H v t → Tm K H (.ref a) (.node (.fn n) [t])
  | app {a v t u r} : SqT K H a [.str "app", v, u] → Tm K H v t → Tm K H u r → Tm K H (.ref a) (.node .app [t, r])
  | lt {a n v t u r} : SqT K H a [.str "let", .str n, v, u] → Tm K H v t → Tm K H u r → Tm K H (.ref a) (.node (.lt n) [t, r])
  | rc {a n v t u r} : SqT K H a [.str "rec", .str n, v, u] → Tm K H v t → Tm K H u r → Tm K H (.ref a) (.node (.rc n) [t, r])
  | cond {a v t u r z q} : SqT K H a [.str "if", v, u, z] → Tm K H v t → Tm K H u r → Tm K H z q → Tm K H (.ref a) (.node .cond [t, r, q])
  | tup {a l : Addr} {xs : List V} {ts : List T} : SqT K H a [.str "tuple", .ref l] → SqL K H l xs → xs.length = ts.length → (∀ (i : Nat) (v : V) (t : T), xs[i]? = some v → ts[i]? = some t → Tm K H v t) → Tm K H (.ref a) (.node .tup ts)
  | part {a k z v t} : SqT K H a [.str "part", .int k, .int z, v] → Tm K H v t → Tm K H (.ref a) (.node (.part k z) [t])
  | record {a l : Addr} {bs : List Addr} {us : List V} {ls : List Str} {ts : List T} : SqT K H a [.str "record", .ref l] → SqL K H l (bs.map V.ref) → bs.length = ts.length → ls.length = ts.length → us.length = ts.length →
      (∀ (i : Nat) (b : Addr) (n : Str) (u : V), bs[i]? = some b → ls[i]? = some n → us[i]? = some u → SqT K H b [.str n, u]) → (∀ (i : Nat) (u : V) (t : T), us[i]? = some u → ts[i]? = some t → Tm K H u t) → Tm K H (.ref a) (.node (.record ls) ts)
  | field {a v t n} : SqT K H a [.str "field", v, .str n] → Tm K H v t → Tm K H (.ref a) (.node (.field n) [t])
  | wth {a v t n u r} : SqT K H a [.str "with", v, .str n, u] → Tm K H v t → Tm K H u r → Tm K H (.ref a) (.node (.wth n) [t, r])

/-- a pairing by place -/
def Al {α β : Type} (R : α → β → Prop) (xs : List α) (ys : List β) : Prop := xs.length = ys.length ∧ ∀ (i : Nat) (x : α) (y : β), xs[i]? = some x → ys[i]? = some y → R x y
theorem Al.nil {α β : Type} {R : α → β → Prop} : Al R [] [] := ⟨rfl, fun i x y h => by simp at h⟩
theorem Al.snoc {α β : Type} {R : α → β → Prop} {xs : List α} {ys : List β} {x : α} {y : β} (h : Al R xs ys) (r : R x y) : Al R (xs ++ [x]) (ys ++ [y]) := by
  obtain ⟨l, f⟩ := h
  refine ⟨by simp [l], fun i u v hu hv => ?_⟩
  by_cases q : i < xs.length
  · rw [List.getElem?_append_left q] at hu
    rw [List.getElem?_append_left (by omega)] at hv
    exact f i u v hu hv
  · rw [List.getElem?_append_right (by omega)] at hu
    rw [List.getElem?_append_right (by omega)] at hv
    have e : i - xs.length = 0 := by
      have := (List.getElem?_eq_some_iff.mp hu).1
      simp at this
      omega
    rw [e] at hu
    rw [show i - ys.length = 0 by omega] at hv
    simp at hu hv
    rw [← hu, ← hv]
    exact r
theorem Al.mono {α β : Type} {R R' : α → β → Prop} {xs : List α} {ys : List β} (h : Al R xs ys) (f : ∀ x y, y ∈ ys → R x y → R' x y) : Al R' xs ys :=
  ⟨h.1, fun i x y a b => f x y (List.mem_of_getElem? b) (h.2 i x y a b)⟩
theorem Tm.keep {K : PySem.W.Frag} {s : Addr} {H H' : Hp} (k : Keep s H H') (hs : Src H s) {v : V} {t : T} (h : Tm K H v t) : Tm K H' v t := by
  induction h with
  | var h => exact .var (k.tup hs h)
  | int h => exact .int (k.tup hs h)
  | bool h => exact .bool (k.tup hs h)
  | fn h _ i => exact .fn (k.tup hs h) i
  | app h _ _ i j => exact .app (k.tup hs h) i j
  | lt h _ _ i j => exact .lt (k.tup hs h) i j
  | rc h _ _ i j => exact .rc (k.tup hs h) i j
  | cond h _ _ _ i j l => exact .cond (k.tup hs h) i j l
  | @tup a l xs ts h h2 l1 f i =>
    refine .tup (k.tup hs h) (k.seq hs (No3.of_ref fun v hv j e => ?_) h2) l1 i
    obtain ⟨n, hn, q⟩ := List.getElem_of_mem hv
    have q1 : xs[n]? = some v := by rw [List.getElem?_eq_getElem hn, q]
    have q2 := f n v (ts[n]'(by omega)) q1 (List.getElem?_eq_getElem (by omega))
    rw [e] at q2
    cases q2
  | part h _ i => exact .part (k.tup hs h) i
  | record h h2 l1 l2 l3 f g i =>
    refine .record (k.tup hs h) (k.seq hs (No3.of_ref fun v hv j e => ?_) h2) l1 l2 l3 (fun j b n u a1 a2 a3 => k.tup hs (f j b n u a1 a2 a3)) i
    obtain ⟨b, _, q⟩ := List.mem_map.mp hv
    rw [e] at q
    cases q
  | field h _ i => exact .field (k.tup hs h) i
  | wth h _ _ i j => exact .wth (k.tup hs h) i j
theorem Tm.same {K : PySem.W.Frag} {H H' : Hp} (k : Same H H') {v : V} {t : T} (h : Tm K H v t) : Tm K H' v t := by
  induction h with
  | var h => exact .var (Same.tupS k h)
  | int h => exact .int (Same.tupS k h)
  | bool h => exact .bool (Same.tupS k h)
  | fn h _ i => exact .fn (Same.tupS k h) i
  | app h _ _ i j => exact .app (Same.tupS k h) i j
  | lt h _ _ i j => exact .lt (Same.tupS k h) i j
  | rc h _ _ i j => exact .rc (Same.tupS k h) i j
  | cond h _ _ _ i j l => exact .cond (Same.tupS k h) i j l
  | tup h h2 l1 f i => exact .tup (Same.tupS k h) (k.seq h2) l1 i
  | part h _ i => exact .part (Same.tupS k h) i
  | record h h2 l1 l2 l3 f g i => exact .record (Same.tupS k h) (k.seq h2) l1 l2 l3 (fun j b n u a1 a2 a3 => Same.tupS k (f j b n u a1 a2 a3)) i
  | field h _ i => exact .field (Same.tupS k h) i
  | wth h _ _ i j => exact .wth (Same.tupS k h) i j

/-! ### what a term is -/
def isName (n : Str) : Prop := 1 ≤ n.length ∧ n.length ≤ 8 ∧ ∀ c ∈ n.cps.toList, 97 ≤ c ∧ c ≤ 122
instance (n : Str) : Decidable (isName n) := by unfold isName; infer_instance
/-- the order of texts -/
def strLt (a b : Str) : Prop := a.cps.toList < b.cps.toList
def okHd : Hd → Nat → Prop
  | .var n, k => k = 0 ∧ isName n
  | .int i, k => k = 0 ∧ -(10 ^ 30) ≤ i ∧ i ≤ 10 ^ 30
  | .bool _, k => k = 0
  | .fn n, k => k = 1 ∧ isName n
  | .app, k => k = 2
  | .lt n, k => k = 2 ∧ isName n
  | .rc n, k => k = 2 ∧ isName n
  | .cond, k => k = 3
  | .tup, k => 2 ≤ k ∧ k ≤ 6
  | .part i z, k => k = 1 ∧ 0 ≤ i ∧ i < z ∧ 2 ≤ z ∧ z ≤ 6
  | .record ls, k => ls.length = k ∧ k ≤ 12 ∧ (∀ n ∈ ls, isName n) ∧ ls.Pairwise strLt
  | .field n, k => k = 1 ∧ isName n
  | .wth n, k => k = 2 ∧ isName n
/-- of a rec the first term within is a function -/
def okRec : Hd → List T → Prop
  | .rc _, .node (.fn _) _ :: _ => True
  | .rc _, _ => False
  | _, _ => True
mutual
def T.size : T → Nat
  | .node _ ks => 1 + T.sizes ks
def T.sizes : List T → Nat
  | [] => 0
  | t :: r => t.size + T.sizes r
end
mutual
def T.deep : T → Nat
  | .node _ ks => 1 + T.deeps ks
def T.deeps : List T → Nat
  | [] => 0
  | t :: r => max t.deep (T.deeps r)
end
/-- a term as a law draws it: of a kind, at most three terms within each -/
inductive Wf : T → Prop
  | mk {h ks} : okHd h ks.length → okRec h ks → ks.length ≤ 3 → (∀ t ∈ ks, Wf t) → Wf (.node h ks)
theorem Wf.hd {h : Hd} {ks : List T} (w : Wf (.node h ks)) : okHd h ks.length := by cases w; assumption
theorem Wf.rc {h : Hd} {ks : List T} (w : Wf (.node h ks)) : okRec h ks := by cases w; assumption
theorem Wf.few {h : Hd} {ks : List T} (w : Wf (.node h ks)) : ks.length ≤ 3 := by cases w; assumption
theorem Wf.kid {h : Hd} {ks : List T} (w : Wf (.node h ks)) {t : T} (m : t ∈ ks) : Wf t := by
  cases w with
  | mk _ _ _ f => exact f t m
/-- a term as the document has it: any number of terms within a tuple, a record -/
inductive Wt : T → Prop
  | mk {h ks} : okHd h ks.length → okRec h ks → (∀ t ∈ ks, Wt t) → Wt (.node h ks)
theorem Wf.wt {t : T} (w : Wf t) : Wt t := by
  induction w with
  | mk a b _ _ ih => exact .mk a b ih
theorem Wt.hd {h : Hd} {ks : List T} (w : Wt (.node h ks)) : okHd h ks.length := by cases w; assumption
theorem Wt.rc {h : Hd} {ks : List T} (w : Wt (.node h ks)) : okRec h ks := by cases w; assumption
theorem Wt.kid {h : Hd} {ks : List T} (w : Wt (.node h ks)) {t : T} (m : t ∈ ks) : Wt t := by
  cases w with
  | mk _ _ f => exact f t m
theorem okHd_few {h : Hd} {n : Nat} (a : okHd h n) : n ≤ 12 := by
  cases h <;> simp only [okHd] at a <;> omega
theorem Wt.few {h : Hd} {ks : List T} (w : Wt (.node h ks)) : ks.length ≤ 12 := okHd_few w.hd
theorem sizes_le {ks : List T} {n : Nat} (h : ∀ t ∈ ks, t.size ≤ n) : T.sizes ks ≤ ks.length * n := by
  induction ks with
  | nil => simp [T.sizes]
  | cons t r ih =>
    have h1 := h t List.mem_cons_self
    have h2 := ih fun u hu => h u (List.mem_cons_of_mem _ hu)
    simp only [T.sizes, List.length_cons, Nat.succ_mul]
    omega
theorem deeps_le {ks : List T} {n : Nat} (h : ∀ t ∈ ks, t.deep ≤ n) : T.deeps ks ≤ n := by
  induction ks with
  | nil => simp [T.deeps]
  | cons t r ih =>
    have h1 := h t List.mem_cons_self
    have h2 := ih fun u hu => h u (List.mem_cons_of_mem _ hu)
    simp only [T.deeps]
    omega
/-- how many nodes a drawn term may have -/
def szOf : Nat → Nat
  | 0 => 1
  | d + 1 => 3 * szOf d + 3
theorem szOf_pos : ∀ d, 1 ≤ szOf d
  | 0 => Nat.le_refl _
  | d + 1 => by have := szOf_pos d; simp only [szOf]; omega
/-- the names that mean something in term number i of a node, given those around -/
def ext : Hd → Nat → List Str → List Str
  | .fn m, _, ns => m :: ns
  | .rc m, _, ns => m :: ns
  | .lt m, i, ns => if i = 1 then m :: ns else ns
  | _, _, ns => ns
/-- every name that is used is among those around -/
inductive Sc : List Str → T → Prop
  | mk {ns : List Str} {h : Hd} {ks : List T} : (∀ n, h = .var n → n ∈ ns) → (∀ (i : Nat) (k : T), ks[i]? = some k → Sc (ext h i ns) k) → Sc ns (.node h ks)
theorem ext_mono {h : Hd} {i : Nat} {ns ms : List Str} (s : ∀ n ∈ ns, n ∈ ms) : ∀ n ∈ ext h i ns, n ∈ ext h i ms := by
  have c : ∀ m : Str, ∀ n ∈ m :: ns, n ∈ m :: ms := fun m n hn => by
    rcases List.mem_cons.mp hn with rfl | hn
    · exact List.mem_cons_self
    · exact List.mem_cons_of_mem _ (s n hn)
  cases h <;> first | exact s | exact c _ | (intro n hn; simp only [ext] at hn ⊢; split at hn; exact (by rw [if_pos (by assumption)]; exact c _ n hn); exact (by rw [if_neg (by assumption)]; exact s n hn))
theorem Sc.mono {ns ms : List Str} {t : T} (h : Sc ns t) : (∀ n ∈ ns, n ∈ ms) → Sc ms t := by
  induction h generalizing ms with
  | mk a b ih => exact fun s => .mk (fun n e => s n (a n e)) fun i k e => ih i k e (ext_mono s)
theorem sc0 {ns : List Str} {h : Hd} (hv : ∀ n, h ≠ .var n) : Sc ns (.node h []) := .mk (fun n e => absurd e (hv n)) (fun i k e => by simp at e)
theorem sc1 {ns : List Str} {h : Hd} {k : T} (hv : ∀ n, h ≠ .var n) (a : Sc (ext h 0 ns) k) : Sc ns (.node h [k]) := .mk (fun n e => absurd e (hv n)) (fun i r e => by
  match i, e with
  | 0, e => cases e; exact a
  | i + 1, e => simp at e)
theorem sc2 {ns : List Str} {h : Hd} {k l : T} (hv : ∀ n, h ≠ .var n) (a : Sc (ext h 0 ns) k) (b : Sc (ext h 1 ns) l) : Sc ns (.node h [k, l]) := .mk (fun n e => absurd e (hv n)) (fun i r e => by
  match i, e with
  | 0, e => cases e; exact a
  | 1, e => cases e; exact b
  | i + 2, e => simp at e)
theorem sc3 {ns : List Str} {h : Hd} {k l m : T} (hv : ∀ n, h ≠ .var n) (a : Sc (ext h 0 ns) k) (b : Sc (ext h 1 ns) l) (c : Sc (ext h 2 ns) m) : Sc ns (.node h [k, l, m]) := .mk (fun n e => absurd e (hv n)) (fun i r e => by
  match i, e with
  | 0, e => cases e; exact a
  | 1, e => cases e; exact b
  | 2, e => cases e; exact c
  | i + 3, e => simp at e)
theorem scL {ns : List Str} {h : Hd} {ks : List T} (hv : ∀ n, h ≠ .var n) (he : ∀ i, ext h i ns = ns) (a : ∀ t ∈ ks, Sc ns t) : Sc ns (.node h ks) := .mk (fun n e => absurd e (hv n)) (fun i r e => by rw [he i]; exact a r (List.mem_of_getElem? e))
/-- a term drawn with d levels, where some names mean something -/
def Drawn (d : Nat) (ns : List Str) (t : T) : Prop := Wf t ∧ t.size ≤ szOf d ∧ t.deep ≤ 2 * d + 1 ∧ Sc ns t

/-! ### a list that is being made: all else is told of the heap without it -/
def off (D : Addr) (H : Hp) : Hp := fun b => if b = D then none else H b
theorem off_at {D : Addr} {H : Hp} : off D H D = none := if_pos rfl
theorem off_ne {D b : Addr} {H : Hp} (h : b ≠ D) : off D H b = H b := if_neg h
theorem off_same {D : Addr} {H : Hp} : Same (off D H) H := fun b o h => by
  by_cases e : b = D
  · rw [e, off_at] at h
    cases h
  · rw [off_ne e] at h
    exact h
theorem _root_.L2.Same.wr {G H : Hp} {D : Addr} {o : HO} (h : Same G H) (hD : G D = none) : Same G (L2.upd H D o) := fun b u e => by
  rw [upd_ne (ne_of_none e hD)]
  exact h b u e
theorem _root_.L2.Same.ad {G H : Hp} {p : Addr} {o : HO} (h : Same G H) : Same (L2.upd G p o) (L2.upd H p o) := fun b u e => by
  by_cases q : b = p
  · rw [q, upd_same] at e ⊢
    exact e
  · rw [upd_ne q] at e ⊢
    exact h b u e
theorem _root_.L2.Same.fr {G H : Hp} {p : Addr} (h : Same G H) (hp : H p = none) : G p = none := h.free hp
theorem _root_.L2.Same.off {G H : Hp} {D : Addr} (h : Same G H) (hD : G D = none) : Same G (Vt.off D H) := fun b o e => by
  rw [off_ne (ne_of_none e hD)]
  exact h b o e
theorem Keep.off {s D : Addr} {G H H' : Hp} (h : Same G H) (k : Keep s H H') (hD : G D = none) : Keep s G (Vt.off D H') := fun b o n e => by
  rw [off_ne (ne_of_none e hD)]
  exact k b o n (h b o e)
theorem Src.off {s D : Addr} {H : Hp} (h : Src H s) (hn : s ≠ D) : Src (Vt.off D H) s := by
  obtain ⟨x, y, z, e⟩ := h
  exact ⟨x, y, z, by rw [off_ne hn]; exact e⟩
theorem Src.up {s : Addr} {G H : Hp} (h : Src G s) (e : Same G H) : Src H s := h.same e
theorem upd_none {H : Hp} {p D : Addr} {o : HO} (h : H D = none) (n : D ≠ p) : L2.upd H p o D = none := by rw [upd_ne n]; exact h
/-- one node without terms within it -/
theorem drawn0 {h : Hd} {ns : List Str} (a : okHd h 0) (b : okRec h []) (c : Sc ns (.node h [])) : Drawn 0 ns (.node h []) := ⟨.mk a b (by decide) (fun t m => by cases m), by simp [T.size, T.sizes, szOf], by simp [T.deep, T.deeps], c⟩

/-! ### what is new behind a call -/
def nw (H H' : Hp) : Hp := fun b => if (H b).isSome then none else H' b
theorem nw_of {H H' : Hp} {b : Addr} (h : H b = none) : nw H H' b = H' b := by unfold nw; rw [h]; rfl
theorem nw_get {H H' : Hp} {b : Addr} {o : HO} (h : nw H H' b = some o) : H b = none ∧ H' b = some o := by
  unfold nw at h
  cases e : H b with
  | none => rw [e] at h; exact ⟨rfl, h⟩
  | some u => rw [e] at h; cases h
theorem nw_sub {H H' : Hp} : Same (nw H H') H' := fun b o h => (nw_get h).2
theorem nw_same {H A B : Hp} (h : Same A B) : Same (nw H A) (nw H B) := fun b o e => by
  obtain ⟨e1, e2⟩ := nw_get e
  rw [nw_of e1]
  exact h b o e2
theorem Src.some {H : Hp} {s b : Addr} (h : Src H s) (e : H b = none) : b ≠ s := h.ne e
theorem nw_keep {s : Addr} {H A B : Hp} (k : Keep s A B) (hs : Src H s) : Same (nw H A) (nw H B) := fun b o e => by
  obtain ⟨e1, e2⟩ := nw_get e
  rw [nw_of e1]
  exact k b o (hs.ne e1) e2
theorem Keep.none {s b : Addr} {H H1 : Hp} (k : Keep s H H1) (hs : Src H1 s) (h : H1 b = none) : H b = none := by
  cases e : H b with
  | none => rfl
  | some o =>
    have := k b o (hs.ne h) e
    rw [h] at this
    cases this
/-- new behind a later call is new behind all -/
theorem nw_in {s : Addr} {H H1 A : Hp} (k : Keep s H H1) (hs : Src H1 s) : Same (nw H1 A) (nw H A) := fun b o e => by
  obtain ⟨e1, e2⟩ := nw_get e
  rw [nw_of (k.none hs e1)]
  exact e2
theorem nw_off {X A : Hp} {D : Addr} {o : HO} (h : X D = some o) : Same (nw X A) (Vt.off D A) := fun b u e => by
  obtain ⟨e1, e2⟩ := nw_get e
  rw [off_ne (fun q => by rw [q, h] at e1; cases e1)]
  exact e2
theorem nw_at {H A : Hp} {p : Addr} {o : HO} (h : H p = none) : nw H (L2.upd A p o) p = some o := by rw [nw_of h, upd_same]
theorem Keep.list {s a : Addr} {H H' : Hp} {xs : List V} (k : Keep s H H') (hs : Src H s) (hx : No3 xs) (h : H a = some (.lst xs)) : H' a = some (.lst xs) := by
  obtain ⟨x, y, z, e⟩ := hs
  refine k _ _ (fun q => ?_) h
  rw [q, e] at h
  injection h with h
  injection h with h
  exact hx x y z h.symm
theorem tup_off {K : PySem.W.Frag} {X : Hp} {a D : Addr} {xs zs : List V} (h : SqT K X a xs) (hD : X D = some (.lst zs)) : SqT K (Vt.off D X) a xs := by
  rcases h with (h | ⟨o, h⟩) | h
  · exact .inl (.inl (by rw [off_ne (fun z => by rw [z, hD] at h; injection h with h; cases h)]; exact h))
  · exact .inl (.inr ⟨o, by rw [off_ne (fun z => by rw [z, hD] at h; injection h with h; cases h)]; exact h⟩)
  · exact .inr h
theorem catA_of {K : PySem.W.Frag} {H : Hp} {a b : Addr} {xs ys : List V} {Q : VK} (h1 : SqT K H a xs) (h2 : SqT K H b ys) (hz : xs.length + ys.length ≤ sizeLine) (h : ∀ (p : Addr) (H' : Hp), Same H H' → SqT K H' p (xs ++ ys) → Q (.ref p) H') : rCatA K (.ref a) (.ref b) H Q := by
  refine ⟨a, b, xs, ys, rfl, rfl, h1, h2, hz, fun e => ?_, fun _ e => ?_, fun _ _ p hp => ?_⟩
  · refine h b H (Same.refl _) ?_
    rw [e]
    exact h2
  · refine h a H (Same.refl _) ?_
    rw [e, List.append_nil]
    exact h1
  · exact h p _ (same_new hp _) (SqT.of upd_same)
end Vt


set_option Elab.async false
set_option linter.all false
set_option maxRecDepth 100000
set_option maxHeartbeats 4000000
/-! steps of a reading: names, constants, ints; then the facts of the context -/
local macro_rules | `(tactic| walk_at "ne") => `(tactic| first | assumption | exact Ne.symm (by assumption) | exact L2.ne_of_none (by assumption) (by assumption) | exact L2.ne_of_none L2.upd_same (by assumption) | exact Ne.symm (L2.ne_of_none L2.upd_same (by assumption)) | exact Ne.symm (L2.ne_of_none (by assumption) (by assumption)))
local macro_rules | `(tactic| walk_at "hp") => `(tactic| first | assumption | exact L2.upd_same | exact (L2.upd_ne (by walk_at "ne")).trans (by assumption) | exact (L2.upd_ne (by walk_at "ne")).trans L2.upd_same | exact (L2.upd_ne (by walk_at "ne")).trans ((L2.upd_ne (by walk_at "ne")).trans (by assumption)) | exact (L2.upd_ne (by walk_at "ne")).trans ((L2.upd_ne (by walk_at "ne")).trans L2.upd_same))
local macro_rules | `(tactic| walk_at "cn") => `(tactic| first | assumption | omega | rfl | (constructor <;> omega) | (refine .inl ?_; constructor <;> omega) | (refine .inr ?_; constructor <;> omega) | decide | (refine Vt.sz ?_; simp; done) | (refine Vt.sz ?_; simp; omega))
local macro_rules | `(tactic| walk_at "rd") => `(tactic| (repeat (first
  | refine ⟨_, rfl, ?_⟩
  | refine ⟨_, _, rfl, rfl, ?_⟩
  | refine .inl ⟨_, rfl, ?_⟩
  | (refine ⟨_, _, _, _, rfl, rfl, .inl (.inl (by walk_at "hp")), rfl, ?_⟩)
  | (refine ⟨_, _, _, _, rfl, rfl, (by walk_at "hp"), rfl, ?_⟩)
  | (refine And.intro (by walk_at "cn") ?_))))

namespace Vt
open PySem PySem.Spec PyProof.Rows L2
/-- a draw: an int from 0 to many - 1 -/
def spNext : Sp := fun vs H Q _ => ∃ (s : Addr) (m : Int), vs = [.ref s, .int m] ∧ Src H s ∧ 0 < m ∧ m < 1000000 ∧
  ∀ (i : Int) (H' : Hp), 0 ≤ i → i < m → Keep s H H' → Src H' s → Q (.int i) H'
/-- one of the items -/
def spOne (K : PySem.W.Frag) : Sp := fun vs H Q _ => ∃ (s l : Addr) (xs : List V), vs = [.ref s, .ref l] ∧ Src H s ∧ SqL K H l xs ∧ No3 xs ∧ xs ≠ [] ∧ xs.length < 1000 ∧
  ∀ (v : V) (H' : Hp), v ∈ xs → Keep s H H' → Src H' s → Q v H'
/-- a new source -/
def spSource : Sp := fun vs H Q _ => ∃ c : Int, vs = [.int c] ∧ ∀ (p : Addr) (H' : Hp), Same H H' → Src H' p → H p = none → Q (.ref p) H'
/-- an int of the script, or 0 -/
def spCell (K : PySem.W.Frag) : Sp := fun vs H Q _ => ∃ (a : Addr) (ns : List Int), vs = [.ref a, .int 0] ∧ SqL K H a (ns.map V.int) ∧ ns.length ≤ 900 ∧ ∀ (i : Int) (H' : Hp), Same H H' → Q (.int i) H'
theorem cut1 (ns : List Int) : ∃ i : Int, atI (cutV (ns.map V.int) (some 0) (some (0 + 1)) ++ [V.int 0]) 0 = some (.int i) := by
  have e0 : cutV (ns.map V.int) (some 0) (some (0 + 1)) = (ns.take 1).map V.int := by
    have h1 : HT.sIx (ns.map V.int).length 0 (some 0) = 0 := by
      show min 0 _ = 0
      omega
    unfold cutV
    rw [h1, List.drop_zero]
    cases ns with
    | nil => rfl
    | cons n r =>
      have h2 : HT.sIx ((n :: r).map V.int).length ((n :: r).map V.int).length (some (0 + 1)) = 1 := by
        show min 1 _ = 1
        rw [List.length_map, List.length_cons]
        omega
      rw [h2]
      rfl
  rw [e0]
  cases ns with
  | nil => exact ⟨0, rfl⟩
  | cons n r => exact ⟨n, atI_nat (j := 0) rfl⟩
abbrev s_law_next : Stmt := topS 49
abbrev N_law_next : List Str := ["source", "many", "found", "prime", "number"]
theorem sc_law_next : FnScope N_law_next ["source", "many"] (defScope s_law_next) := ⟨rfl, rfl, rfl, by decide +kernel, rfl, by decide +kernel, by decide +kernel⟩
abbrev s_law_one : Stmt := topS 50
abbrev N_law_one : List Str := ["source", "some"]
theorem sc_law_one : FnScope N_law_one ["source", "some"] (defScope s_law_one) := ⟨rfl, rfl, rfl, by decide +kernel, rfl, by decide +kernel, by decide +kernel⟩
abbrev s_law_source_of : Stmt := topS 48
abbrev N_law_source_of : List Str := ["cell"]
theorem sc_law_source_of : FnScope N_law_source_of ["cell"] (defScope s_law_source_of) := ⟨rfl, rfl, rfl, by decide +kernel, rfl, by decide +kernel, by decide +kernel⟩
abbrev s_law_cell_at : Stmt := topS 51
abbrev N_law_cell_at : List Str := ["script", "index"]
theorem sc_law_cell_at : FnScope N_law_cell_at ["script", "index"] (defScope s_law_cell_at) := ⟨rfl, rfl, rfl, by decide +kernel, rfl, by decide +kernel, by decide +kernel⟩
section
variable {P : Program} {w : World} {K : PySem.W.Frag} {mg : Str → Option Value} {base : Heap}
theorem ok_next (S : Stands K mg "_law_next" s_law_next ["source", "many"]) (Z : Blt mg) : DefOk P w K mg base CX0 1 "_law_next" ["source", "many"] spNext := by
  have z_int := Z.int
  obtain ⟨f, fd, F, hm, hb⟩ := S
  refine ⟨f, fd, ?_, hm, F.kp, hb⟩
  have nd := sc_law_next.nd
  refine F.ok sc_law_next (fun vs H Q E h => ?_) (fun cdv A outer s0 H vs Q E hr h => ?_)
  · obtain ⟨s, m, rfl, _⟩ := h
    rfl
  obtain ⟨s, m, rfl, ⟨x, y, z, hs⟩, h0, h1, q⟩ := h
  refine ⟨_, (pss_cons (ps_if (pt_cmpR op_gt (pe_ix ix_list (pv 0) pe_int (fun _ _ => rfl)) pe_int (nomark _)) (pss_cons (ps_set (i := 2) nd rfl (Or.inl rfl) (pe_op op_mod (pe_callTy call_int1 (by rfl) z_int (by decide +kernel) (pa_cons (pe_ix ix_list (pv 0) pe_int (fun _ _ => rfl)) pa_nil)) (pv 1)))
      (pss_cons (ps_asg (pe_op op_fdivN (pe_ix ix_list (pv 0) pe_int (fun _ _ => rfl)) (pv 1)) (pg_sub (pv 0) pe_int set_list))
      (pss_one (ps_ret (pv 2))))) pss_nil)
      (pss_cons (ps_asg (pe_op op_add (pe_ix ix_list (pv 0) pe_int (fun _ _ => rfl)) pe_int) (pg_sub (pv 0) pe_int set_list))
      (pss_cons (ps_set (i := 3) nd rfl (Or.inl rfl) pe_int)
      (pss_cons (ps_set (i := 4) nd rfl (Or.inl rfl) (pe_op op_mod (pe_callTy call_int1 (by rfl) z_int (by decide +kernel) (pa_cons (pe_op op_add (pe_op op_add (pe_ix ix_list (pv 0) pe_int (fun _ _ => rfl)) (pe_op op_mul pe_int (pe_ix ix_list (pv 0) pe_int (fun _ _ => rfl)))) pe_int) pa_nil)) (pv 3)))
      (pss_cons (ps_set (i := 4) nd rfl (Or.inl rfl) (pe_op op_mod (pe_callTy call_int1 (by rfl) z_int (by decide +kernel) (pa_cons (pe_op op_mul (pv 4) pe_int) pa_nil)) (pv 3)))
      (pss_cons (ps_set (i := 4) nd rfl (Or.inl rfl) (pe_op op_mod (pe_callTy call_int1 (by rfl) z_int (by decide +kernel) (pa_cons (pe_op op_mul (pv 4) (pe_op op_add (pe_op op_fdiv (pv 4) pe_int) pe_int)) pa_nil)) (pv 3)))
      (pss_cons (ps_set (i := 4) nd rfl (Or.inl rfl) (pe_op op_mod (pe_callTy call_int1 (by rfl) z_int (by decide +kernel) (pa_cons (pe_op op_mul (pv 4) (pe_op op_add (pe_op op_fdiv (pv 4) pe_int) pe_int)) pa_nil)) pe_int))
      (pss_one (ps_ret (pe_op op_mod (pe_callTy call_int1 (by rfl) z_int (by decide +kernel) (pa_cons (pe_op op_fdiv (pv 4) pe_int) pa_nil)) (pv 1))))))))))), ?_⟩
  walk_at "rd"
  refine ite2 (fun c => ?_) (fun c => ?_)
  · walk_at "rd"
    exact q _ _ (Int.emod_nonneg _ (by omega)) (Int.emod_lt_of_pos _ h0) Keep.wr ⟨_, _, _, upd_same⟩
  · walk_at "rd"
    exact q _ _ (Int.emod_nonneg _ (by omega)) (Int.emod_lt_of_pos _ h0) Keep.wr ⟨_, _, _, upd_same⟩
theorem ok_one (S : Stands K mg "_law_one" s_law_one ["source", "some"]) (Z : Blt mg) (H_law_next : DefOk P w K mg base CX0 1 "_law_next" ["source", "many"] spNext) : DefOk P w K mg base CX0 2 "_law_one" ["source", "some"] (spOne K) := by
  have z_len := Z.len
  obtain ⟨f, fd, F, hm, hb⟩ := S
  obtain ⟨f_law_next, fd_law_next, G_law_next, m_law_next, k_law_next, b_law_next⟩ := H_law_next
  refine ⟨f, fd, ?_, hm, F.kp, hb⟩
  have nd := sc_law_one.nd
  refine F.ok sc_law_one (fun vs H Q E h => ?_) (fun cdv A outer s0 H vs Q E hr h => ?_)
  · obtain ⟨s, l, xs, rfl, _⟩ := h
    rfl
  obtain ⟨s, l, xs, rfl, hs, hl, h3, hne, hlen, q⟩ := h
  refine ⟨_, (pss_one (ps_ret (pe_ix ix_list (pv 1) (pe_call G_law_next (hr.mono (by decide)) rfl m_law_next k_law_next b_law_next .nil pass0 (pa_cons (pv 0) (pa_cons (pe_callB call_len_seq (by rfl) z_len (by decide +kernel) (pa_cons (pv 1) pa_nil)) pa_nil))) (fun _ _ => rfl)))), ?_⟩
  have hpos : 0 < xs.length := List.length_pos_iff.mpr hne
  refine ⟨_, rfl, _, rfl, _, rfl, l, xs, rfl, .inl hl, s, _, rfl, hs, by omega, by omega, fun i H' h0 h1 kp hs' => ?_⟩
  obtain ⟨j, rfl⟩ := Int.eq_ofNat_of_zero_le h0
  have hj : j < xs.length := by omega
  exact ⟨l, xs, _, _, rfl, rfl, kp.seq hs h3 hl, atI_nat (List.getElem?_eq_getElem hj), q _ _ (List.getElem_mem hj) kp hs'⟩
theorem ok_source (S : Stands K mg "_law_source_of" s_law_source_of ["cell"]) (Z : Blt mg) : DefOk P w K mg base CX0 1 "_law_source_of" ["cell"] spSource := by
  have z_int := Z.int
  obtain ⟨f, fd, F, hm, hb⟩ := S
  refine ⟨f, fd, ?_, hm, F.kp, hb⟩
  have nd := sc_law_source_of.nd
  refine F.ok sc_law_source_of (fun vs H Q E h => ?_) (fun cdv A outer s0 H vs Q E hr h => ?_)
  · obtain ⟨c, rfl, _⟩ := h
    rfl
  obtain ⟨c, rfl, q⟩ := h
  refine ⟨_, (pss_cons (ps_set (i := 0) nd rfl (Or.inl rfl) (pe_ifExp (pt_cmpR op_ge (pv 0) pe_int (nomark _)) (pv 0) (pe_op op_sub (pe_op op_sub pe_int (pe_op op_mul pe_int (pv 0))) pe_int)))
      (pss_one (ps_ret (pe_lst (pa_cons (pe_op op_mul (pv 0) (pe_callTy call_int1 (by rfl) z_int (by decide +kernel) (pa_cons (pe_cmpR op_ge (pv 0) (pe_op op_pow pe_int pe_int) (nomark _)) pa_nil))) (pa_cons (pe_op op_mod (pe_callTy call_int1 (by rfl) z_int (by decide +kernel) (pa_cons (pv 0) pa_nil)) pe_int) (pa_cons pe_int pa_nil))))))), ?_⟩
  walk_at "rd"
  refine ite2 (fun c => ?_) (fun c => ?_)
  all_goals
    walk_at "rd"
    refine .inr ⟨_, rfl, _, _, rfl, rfl, .inr (by split <;> decide), ?_⟩
    walk_at "rd"
    intro p hp
    exact q p _ (same_new hp _) ⟨_, _, _, upd_same⟩ hp
theorem ok_cell (S : Stands K mg "_law_cell_at" s_law_cell_at ["script", "index"]) : DefOk P w K mg base CX0 1 "_law_cell_at" ["script", "index"] (spCell K) := by
  obtain ⟨f, fd, F, hm, hb⟩ := S
  refine ⟨f, fd, ?_, hm, F.kp, hb⟩
  have nd := sc_law_cell_at.nd
  refine F.ok sc_law_cell_at (fun vs H Q E h => ?_) (fun cdv A outer s0 H vs Q E hr h => ?_)
  · obtain ⟨a, ns, rfl, _⟩ := h
    rfl
  obtain ⟨a, ns, rfl, ha, hn, q⟩ := h
  refine ⟨_, (pss_one (ps_ret (pe_ix ix_list (pe_op op_cat (pe_slice sl_list (pv 0) (po_some (pv 1)) (po_some (pe_op op_add (pv 1) pe_int))) (pe_lst (pa_cons pe_int pa_nil))) pe_int (fun _ _ => rfl)))), ?_⟩
  walk_at "rd"
  refine ⟨a, _, rfl, ha, fun p hp => ⟨by show 1 ≤ sizeLine; decide, fun r hr' => ?_⟩⟩
  obtain ⟨i, e1⟩ := cut1 ns
  have z : (cutV (ns.map V.int) (some 0) (some (0 + 1))).length + 1 ≤ sizeLine := sz (by have := cutV_length (ns.map V.int) (some 0) (some (0 + 1)); rw [List.length_map] at this; omega)
  refine ⟨p, r, _, _, rfl, rfl, (upd_ne (ne_of_none upd_same hr')).trans upd_same, upd_same, z, fun t ht => ?_⟩
  refine ⟨t, _, _, _, rfl, rfl, SqL.of upd_same, e1, ?_⟩
  exact q i _ ((same_new hp _).trans ((same_new hr' _).trans (same_new ht _)))
end
end Vt


set_option Elab.async false
set_option linter.all false
set_option maxRecDepth 100000
set_option maxHeartbeats 4000000

namespace Vt
open PySem PySem.Spec PyProof.Rows L2
/-- a term without terms within it -/
def spLeaf (K : PySem.W.Frag) : Sp := fun vs H Q _ => ∃ (s l : Addr) (ns : List Str), vs = [.ref s, .ref l] ∧ Src H s ∧ SqL K H l (ns.map V.str) ∧ (∀ n ∈ ns, isName n) ∧ ns.length ≤ 100 ∧
  ∀ (v : V) (H' : Hp) (t : T), Keep s H H' → Src H' s → Tm K (nw H H') v t → Drawn 0 ns t → Q v H'
theorem dpStrs {K : PySem.W.Frag} {H : Hp} : ∀ ns : List Str, DpAll K H (ns.map V.str) (ns.map PyData.str)
  | [] => .nil
  | n :: r => .cons (.str n) (dpStrs r)
theorem isName.ok {n : Str} (h : isName n) : PyData.strOk n = true := by
  unfold PyData.strOk
  rw [Array.all_eq_true']
  intro c hc
  have := h.2.2 c (Array.mem_toList_iff.mpr hc)
  exact decide_eq_true (by omega)
theorem strs_lay : ∀ ns : List Str, (∀ n ∈ ns, isName n) → PyData.canLayAll0 (ns.map PyData.str) = true
  | [], _ => by simp [PyData.canLayAll0]
  | n :: r, h => by
    simp only [List.map_cons, PyData.canLayAll0, PyData.canLay0, (h n List.mem_cons_self).ok, strs_lay r fun m hm => h m (List.mem_cons_of_mem _ hm), Bool.and_self]
theorem strs_depth : ∀ ns : List Str, PyData.depthAll (ns.map PyData.str) ≤ 2
  | [] => by simp [PyData.depthAll]
  | n :: r => by
    have := strs_depth r
    simp only [List.map_cons, PyData.depthAll, PyData.depth]
    omega
theorem strs_shaped (ns : List Str) (hn : ∀ n ∈ ns, isName n) : SeqAt.shaped (.list (ns.map PyData.str)) = true := by
  have h := strs_depth ns
  have h2 : PyData.depth (.list (ns.map PyData.str)) ≤ 64 := by
    simp only [PyData.depth]
    omega
  show (PyData.canLay0 (.list (ns.map PyData.str)) && decide (PyData.depth (.list (ns.map PyData.str)) ≤ 64)) = true
  rw [Bool.and_eq_true]
  exact ⟨by simp only [PyData.canLay0]; exact strs_lay ns hn, decide_eq_true h2⟩
theorem nil_shaped : SeqAt.shaped (.list []) = true := strs_shaped [] (fun n h => by cases h)
theorem get_map {α β : Type} {f : α → β} {xs : List α} {i : Nat} {y : β} (h : (xs.map f)[i]? = some y) : ∃ x, x ∈ xs ∧ xs[i]? = some x ∧ y = f x := by
  rw [List.getElem?_map] at h
  cases e : xs[i]? with
  | none => rw [e] at h; cases h
  | some x => rw [e] at h; exact ⟨x, List.mem_of_getElem? e, rfl, (Option.some.inj h).symm⟩
theorem mem_rep {xs : List V} {k : Nat} {v : V} (h : v ∈ (List.replicate k xs).flatten) : v ∈ xs := by
  obtain ⟨l, hl, hv⟩ := List.mem_flatten.mp h
  rw [(List.mem_replicate.mp hl).2] at hv
  exact hv
theorem mem_cut {xs : List V} {lo hi : Option Int} {v : V} (h : v ∈ cutV xs lo hi) : v ∈ xs := List.mem_of_mem_drop (List.mem_of_mem_take h)
abbrev s_law_leaf : Stmt := topS 52
abbrev N_law_leaf : List Str := ["source", "names", "some", "name"]
theorem sc_law_leaf : FnScope N_law_leaf ["source", "names"] (defScope s_law_leaf) := ⟨rfl, rfl, rfl, by decide +kernel, rfl, by decide +kernel, by decide +kernel⟩
section
variable {P : Program} {w : World} {K : PySem.W.Frag} {mg : Str → Option Value} {base : Heap}
theorem ok_leaf (S : Stands K mg "_law_leaf" s_law_leaf ["source", "names"]) (Z : Blt mg) (H_law_next : DefOk P w K mg base CX0 1 "_law_next" ["source", "many"] spNext) (H_law_one : DefOk P w K mg base CX0 2 "_law_one" ["source", "some"] (spOne K)) :
    DefOk P w K mg base CX0 3 "_law_leaf" ["source", "names"] (spLeaf K) := by
  have z_int := Z.int
  obtain ⟨f, fd, F, hm, hb⟩ := S
  obtain ⟨f_law_next, fd_law_next, G_law_next, m_law_next, k_law_next, b_law_next⟩ := H_law_next
  obtain ⟨f_law_one, fd_law_one, G_law_one, m_law_one, k_law_one, b_law_one⟩ := H_law_one
  refine ⟨f, fd, ?_, hm, F.kp, hb⟩
  have nd := sc_law_leaf.nd
  refine F.ok sc_law_leaf (fun vs H Q E h => ?_) (fun cdv A outer s0 H vs Q E hr h => ?_)
  · obtain ⟨s, l, ns, rfl, _⟩ := h
    rfl
  obtain ⟨s, l, ns, rfl, hs, hl, hn, hlen, q⟩ := h
  refine ⟨_, (pss_cons (ps_set (i := 2) nd rfl (Or.inl rfl) (pe_lst (pa_cons (pe_tup (pa_cons pe_str (pa_cons (pe_op op_sub (pe_call G_law_next (hr.mono (by decide)) rfl m_law_next k_law_next b_law_next .nil pass0 (pa_cons (pv 0) (pa_cons pe_int pa_nil))) pe_int) pa_nil))) (pa_cons (pe_tup (pa_cons pe_str (pa_cons (pe_cmpR op_eq (pe_call G_law_next (hr.mono (by decide)) rfl m_law_next k_law_next b_law_next .nil pass0 (pa_cons (pv 0) (pa_cons pe_int pa_nil))) pe_int (nomark _)) pa_nil))) (pa_cons (pe_tup (pa_cons pe_str (pa_cons (pe_lst pa_nil) pa_nil))) pa_nil)))))
      (pss_one (ps_ret (pe_call G_law_one (hr.mono (by decide)) rfl m_law_one k_law_one b_law_one .nil pass0 (pa_cons (pv 0) (pa_cons (pe_op op_cat (pe_op op_cat (pe_op op_rep (pe_slice sl_list (pv 2) po_none (po_some pe_int)) (pe_callTy call_int1 (by rfl) z_int (by decide +kernel) (pa_cons (pe_cmpR (op_eqD hr.units) (pv 1) (pe_lst pa_nil) (nomark _)) pa_nil))) (pe_op op_rep (pe_lc (own := [("name", 3)]) (g := gName 3) (tt := tYes) rfl nd (pi_list (pv 1)) (blkOk_by (N := N_law_leaf) (sc := defScope s_law_leaf) (by decide +kernel)) (fun _ _ _ _ _ => (pg_name (i := 3) nd rfl (Or.inl rfl))) (fun _ _ _ _ _ => pts_nil) (fun _ _ _ _ _ => (pe_tup (pa_cons pe_str (pa_cons (pv 3) pa_nil))))) pe_int)) (pv 2)) pa_nil)))))), ?_⟩
  walk_at "rd"
  refine ⟨s, _, rfl, hs, by omega, by omega, fun i1 H1 i10 i11 k1 hs1 => ?_⟩
  walk_at "rd"
  intro p1 hp1
  have S1 := same_new hp1 (.tup [V.str "int", V.int (i1 - 4)])
  walk_at "rd"
  refine ⟨s, _, rfl, hs1.same S1, by omega, by omega, fun i2 H2 i20 i21 k2 hs2 => ?_⟩
  walk_at "rd"
  intro p2 hp2
  have S2 := same_new hp2 (.tup [V.str "bool", V.bl (decide (V.int i2 = V.int 1))])
  walk_at "rd"
  intro p3 hp3
  have S3 := same_new hp3 (.lst [])
  walk_at "rd"
  intro p4 hp4
  have S4 := same_new hp4 (.tup [V.str "record", V.ref p3])
  walk_at "rd"
  intro p5 hp5
  have S5 := same_new hp5 (.lst [V.ref p1, V.ref p2, V.ref p4])
  walk_at "rd"
  have n1 := k1.none hs1 hp1
  have kA := k1.trans (Same.keep S1)
  have n2 := (kA.trans k2).none hs2 hp2
  have n3 := ((kA.trans k2).same S2).none (hs2.same S2) hp3
  have n4 := (((kA.trans k2).same S2).same S3).none ((hs2.same S2).same S3) hp4
  have T1 : Tm K (nw H _) (.ref p1) (.node (.int (i1 - 4)) []) := (((((Tm.int (SqT.of (nw_at n1)) : Tm K (nw H _) (.ref p1) (.node (.int (i1 - 4)) [])).same (nw_keep k2 hs)).same (nw_same S2)).same (nw_same S3)).same (nw_same S4)).same (nw_same S5)
  have T2 : Tm K (nw H _) (.ref p2) (.node (.bool (decide (V.int i2 = V.int 1))) []) := (((Tm.bool (SqT.of (nw_at n2)) : Tm K (nw H _) (.ref p2) (.node (.bool (decide (V.int i2 = V.int 1))) [])).same (nw_same S3)).same (nw_same S4)).same (nw_same S5)
  have T4 : Tm K (nw H _) (.ref p4) (.node (.record []) []) := (Tm.record (bs := []) (us := []) (SqT.of (nw_at n4)) (SqL.of (nw_same S4 _ _ (nw_at n3))) rfl rfl rfl (fun _ _ _ _ h => by simp at h) (fun _ _ _ h => by simp at h) : Tm K (nw H _) (.ref p4) (.node (.record []) [])).same (nw_same S5)
  have kE : Keep s H _ := ((k1.trans (Same.keep S1)).trans k2).same (((S2.trans S3).trans S4).trans S5)
  have hsE := (((hs2.same S2).same S3).same S4).same S5
  have hlE := kE.seq hs (no3_strs ns) hl
  have hall : ∀ v ∈ [V.ref p1, V.ref p2, V.ref p4], ∃ t, Tm K (nw H _) v t ∧ Drawn 0 ns t := fun v hv => by
    simp only [List.mem_cons, List.not_mem_nil, or_false] at hv
    rcases hv with rfl | rfl | rfl
    · exact ⟨_, T1, drawn0 ⟨rfl, by omega, by omega⟩ trivial (sc0 fun n => nofun)⟩
    · exact ⟨_, T2, drawn0 rfl trivial (sc0 fun n => nofun)⟩
    · exact ⟨_, T4, drawn0 ⟨rfl, by decide, fun n hn => by (cases hn), List.Pairwise.nil⟩ trivial (sc0 fun n => nofun)⟩
  have h5 := @upd_same (upd (upd (upd H2 p2 (.tup [V.str "bool", V.bl (decide (V.int i2 = V.int 1))])) p3 (.lst [])) p4 (.tup [V.str "record", V.ref p3])) p5 (.lst [V.ref p1, V.ref p2, V.ref p4])
  clear T1 T2 T4 hp1 hp2 hp3 hp4 hp5 hs1 hs2 k1 k2 n2 n3 n4 kA
  generalize upd (upd (upd (upd H2 p2 (.tup [V.str "bool", V.bl (decide (V.int i2 = V.int 1))])) p3 (.lst [])) p4 (.tup [V.str "record", V.ref p3])) p5 (.lst [V.ref p1, V.ref p2, V.ref p4]) = H5 at *
  refine ⟨p5, _, rfl, SqL.of h5, fun p6 hp6 => ?_⟩
  have S6 := same_new hp6 (.lst (cutV [V.ref p1, V.ref p2, V.ref p4] none (some 2)))
  walk_at "rd"
  intro p7 hp7
  have S7 := same_new hp7 (.lst [])
  have hl7 := S7.seq (S6.seq hlE)
  refine ⟨.list (ns.map .str), .list [], .lst hl7 (dpStrs ns), .lst (SqL.of upd_same) .nil, strs_shaped ns hn, nil_shaped, ?_⟩
  refine .inr ⟨_, rfl, ?_⟩
  refine ⟨p6, _, _, rfl, rfl, S7 _ _ upd_same, by split <;> decide, by split <;> decide, sz (Nat.le_trans (Nat.mul_le_mul_right _ (cutV_length _ _ _)) (by split <;> simp)), fun p8 hp8 => ?_⟩
  have S8 := same_new hp8 (.lst (List.replicate (if PyData.eqv (.list (ns.map .str)) (.list []) = true then (1 : Int) else 0).toNat (cutV [V.ref p1, V.ref p2, V.ref p4] none (some 2))).flatten)
  have hl8 := S8.seq hl7
  have k8 := kE.same ((S6.trans S7).trans S8)
  have hs8 := ((hsE.same S6).same S7).same S8
  have h58 := S8 _ _ (S7 _ _ (S6 _ _ h5))
  have h88 := @upd_same (upd (upd H5 p6 (.lst (cutV [V.ref p1, V.ref p2, V.ref p4] none (some 2)))) p7 (.lst [])) p8 (.lst (List.replicate (if PyData.eqv (.list (ns.map .str)) (.list []) = true then (1 : Int) else 0).toNat (cutV [V.ref p1, V.ref p2, V.ref p4] none (some 2))).flatten)
  have hall8 : ∀ v ∈ [V.ref p1, V.ref p2, V.ref p4], ∃ t, Tm K (nw H _) v t ∧ Drawn 0 ns t := fun v hv => by
    obtain ⟨t, a, b⟩ := hall v hv
    exact ⟨t, ((a.same (nw_same S6)).same (nw_same S7)).same (nw_same S8), b⟩
  clear hall hl7 hlE kE hsE h5
  have hmem8 : ∀ v ∈ (List.replicate (if PyData.eqv (.list (ns.map .str)) (.list []) = true then (1 : Int) else 0).toNat (cutV [V.ref p1, V.ref p2, V.ref p4] none (some 2))).flatten, v ∈ [V.ref p1, V.ref p2, V.ref p4] := fun v hv => mem_cut (mem_rep hv)
  have hlen8 : (List.replicate (if PyData.eqv (.list (ns.map .str)) (.list []) = true then (1 : Int) else 0).toNat (cutV [V.ref p1, V.ref p2, V.ref p4] none (some 2))).flatten.length ≤ 3 := by
    split
    · show ([cutV [V.ref p1, V.ref p2, V.ref p4] none (some 2)].flatten).length ≤ 3
      rw [List.flatten_cons, List.flatten_nil, List.append_nil]
      exact cutV_length _ _ _
    · exact Nat.zero_le _
  generalize upd (upd (upd H5 p6 (.lst (cutV [V.ref p1, V.ref p2, V.ref p4] none (some 2)))) p7 (.lst [])) p8 (.lst (List.replicate (if PyData.eqv (.list (ns.map .str)) (.list []) = true then (1 : Int) else 0).toNat (cutV [V.ref p1, V.ref p2, V.ref p4] none (some 2))).flatten) = H8 at *
  generalize (List.replicate (if PyData.eqv (.list (ns.map .str)) (.list []) = true then (1 : Int) else 0).toNat (cutV [V.ref p1, V.ref p2, V.ref p4] none (some 2))).flatten = ys at *
  refine ⟨_, rfl, l, rfl, ⟨_, hl8⟩, fun D hD => ?_⟩
  refine lc_list (K := K) (a := l) (xs := ns.map V.str) (fun i X => ∃ (G : Hp) (acc : List V), Same G X ∧ G D = none ∧ Same H8 G ∧ X D = some (.lst acc) ∧ acc.length = i ∧ ∀ v ∈ acc, ∃ t, Tm K (nw H G) v t ∧ Drawn 0 ns t)
    ⟨H8, [], same_new hD _, hD, Same.refl _, upd_same, rfl, fun v hv => by cases hv⟩ (fun i X hi ⟨G, acc, g1, _, g2, _⟩ => (g2.trans g1).seq hl8) ?_ ?_
  · rintro i x X hx ⟨G, acc, g1, g2, g3, g4, g5, g6⟩
    obtain ⟨n, hn1, hn2, rfl⟩ := get_map hx
    walk_at "rd"
    walk_at "rd"
    intro p hp
    have gp := g1.fr hp
    have hi := (List.getElem?_eq_some_iff.mp hn2).1
    refine ⟨acc, (upd_ne (ne_of_none g4 hp)).trans g4, small1000 (by omega), upd G p (.tup [V.str "var", V.str n]), acc ++ [V.ref p], ?_, ?_, g3.trans (same_new gp _), upd_same, by simp [g5], ?_⟩
    · exact (g1.ad).wr (upd_none g2 (ne_of_none g4 hp))
    · exact upd_none g2 (ne_of_none g4 hp)
    · intro v hv
      rcases List.mem_append.mp hv with hv | hv
      · obtain ⟨t, a, b⟩ := g6 v hv
        exact ⟨t, a.same (nw_same (same_new gp _)), b⟩
      · rw [List.mem_singleton.mp hv]
        exact ⟨_, .var (SqT.of (nw_at (k8.none hs8 (g3.fr gp)))), drawn0 ⟨rfl, hn n hn1⟩ trivial (.mk (fun m e => by cases e; exact hn1) fun i k e => by simp at e)⟩
  · rintro X ⟨G, acc, g1, g2, g3, g4, g5, g6⟩
    rw [List.length_map] at g5
    have S9 := g3.trans g1
    refine ⟨D, _, acc, rfl, rfl, g4, by decide, by decide, sz (by show acc.length * 2 ≤ 1000; omega), fun p9 hp9 => ?_⟩
    have l9 : ((List.replicate (Int.toNat 2) acc).flatten).length = 2 * acc.length := by
      show (acc ++ (acc ++ [])).length = _
      simp
      omega
    have h9 := @upd_same X p9 (.lst (List.replicate (Int.toNat 2) acc).flatten)
    have m9 : ∀ v ∈ (List.replicate (Int.toNat 2) acc).flatten, v ∈ acc := fun v hv => mem_rep hv
    have T9 := same_new hp9 (.lst (List.replicate (Int.toNat 2) acc).flatten)
    generalize (List.replicate (Int.toNat 2) acc).flatten = zs at *
    refine ⟨p8, p9, ys, zs, rfl, rfl, T9 _ _ (S9 _ _ h88), h9, sz (by omega), fun p10 hp10 => ?_⟩
    have T10 := same_new hp10 (.lst (ys ++ zs))
    walk_at "rd"
    refine ⟨p10, p5, _, _, rfl, rfl, upd_same, T10 _ _ (T9 _ _ (S9 _ _ h58)), sz (by simp; omega), fun p11 hp11 => ?_⟩
    have T11 := same_new hp11 (.lst (ys ++ zs ++ [V.ref p1, V.ref p2, V.ref p4]))
    have Sall := (S9.trans (T9.trans T10)).trans T11
    have hit : ∀ v ∈ ys ++ zs ++ [V.ref p1, V.ref p2, V.ref p4], ∃ t, Tm K (nw H _) v t ∧ Drawn 0 ns t := fun v hv => by
      rcases List.mem_append.mp hv with hv | hv
      · rcases List.mem_append.mp hv with hv | hv
        · obtain ⟨t, a, b⟩ := hall8 v (hmem8 v hv)
          exact ⟨t, a.same (nw_same Sall), b⟩
        · obtain ⟨t, a, b⟩ := g6 v (m9 v hv)
          exact ⟨t, a.same (nw_same (((g1.trans T9).trans T10).trans T11)), b⟩
      · obtain ⟨t, a, b⟩ := hall8 v hv
        exact ⟨t, a.same (nw_same Sall), b⟩
    refine ⟨s, p11, _, rfl, hs8.same Sall, SqL.of upd_same, No3.of_ref fun v hv j e => ?_, by simp, by simp; omega, fun v H' hv kv hs' => ?_⟩
    · obtain ⟨t, a, _⟩ := hit v hv
      rw [e] at a
      cases a
    · obtain ⟨t, a, b⟩ := hit v hv
      exact q v H' t ((k8.same Sall).trans kv) hs' (a.same (nw_keep kv hs)) b
end
end Vt


set_option Elab.async false
set_option linter.all false
set_option maxRecDepth 100000
set_option maxHeartbeats 4000000

namespace Vt
open PySem PySem.Spec PyProof.Rows L2
/-- a text times an int -/
def rMulS : R2 := fun x y H Q => ∃ (z : Str) (i : Int), x = .str z ∧ y = .int i ∧ PySem.MulOk z i ∧ Q (.str (PySem.Txt.mul z i)) H
theorem op_mul_str {X : Cx} : OpR X (binaryOp .Mult) rMulS := by
  intro pins s σ H x y v u Q I rx ry h
  obtain ⟨z, i, rfl, rfl, ok, q⟩ := h
  obtain ⟨t, rfl⟩ := rx
  obtain ⟨t', rfl⟩ := ry
  exact PySem.SB.mul ok fun t'' k => ⟨.str _, H, I.tok _, ⟨_, rfl⟩, q⟩
/-- of letters from a to z -/
def low (x : Str) : Prop := ∀ c ∈ x.cps.toList, 97 ≤ c ∧ c ≤ 122
instance (x : Str) : Decidable (low x) := by unfold low; infer_instance
theorem low_add {x y : Str} (h : low x) (k : low y) : low (x ++ y) := fun c hc => by
  have e : (x ++ y).cps.toList = x.cps.toList ++ y.cps.toList := Array.toList_append
  rw [e] at hc
  rcases List.mem_append.mp hc with hc | hc
  · exact h c hc
  · exact k c hc
theorem len_add (x y : Str) : (x ++ y).length = x.length + y.length := Array.size_append
theorem low_sign {x : Str} (h : low x) {c : Nat} (hc : c ∈ x.cps.toList) : low ⟨#[c]⟩ := fun d hd => by
  have e : d = c := by simpa using hd
  rw [e]
  exact h c hc
theorem sign_at {x : Str} {n : Nat} (hx : x.length = n) {i : Int} (h0 : 0 ≤ i) (h1 : i < n) : ∃ c, atI x.cps.toList i = some c ∧ c ∈ x.cps.toList := by
  obtain ⟨j, rfl⟩ := Int.eq_ofNat_of_zero_le h0
  have hj : j < x.cps.toList.length := by
    rw [Array.length_toList]
    show j < x.length
    omega
  exact ⟨x.cps.toList[j], atI_nat (List.getElem?_eq_getElem hj), List.getElem_mem hj⟩
theorem q_times {i : Int} (h0 : 0 ≤ i) (h1 : i ≤ 3) : PySem.MulOk "q" i ∧ (PySem.Txt.mul "q" i).length ≤ 3 ∧ low (PySem.Txt.mul "q" i) := by
  rcases (by omega : i = 0 ∨ i = 1 ∨ i = 2 ∨ i = 3) with rfl | rfl | rfl | rfl
  · refine ⟨⟨by decide, fun h => absurd h (by decide), fun h => absurd h (by decide)⟩, by decide +kernel, by decide +kernel⟩
  · refine ⟨⟨by decide, fun _ h => by simp at h, fun _ h => by simp at h⟩, by decide +kernel, by decide +kernel⟩
  · refine ⟨⟨by decide, fun _ _ => by decide +kernel, fun _ _ => by decide +kernel⟩, by decide +kernel, by decide +kernel⟩
  · refine ⟨⟨by decide, fun _ _ => by decide +kernel, fun _ _ => by decide +kernel⟩, by decide +kernel, by decide +kernel⟩
theorem low_name {x : Str} (h : low x) (h1 : 1 ≤ x.length) (h8 : x.length ≤ 8) : isName x := ⟨h1, h8, h⟩
theorem grow {s D p : Addr} {G X X' : Hp} {o L : HO} {xs : List V} (g1 : Same G X) (g2 : G D = none) (hs : Src G s) (k : Keep s X X') (hs' : Src X' s) (hD : X' D = some (.lst xs)) (hp : X' p = none) :
    Same (upd (off D X') p o) (upd (upd X' p o) D L) ∧ (upd (off D X') p o) D = none ∧ Keep s G (upd (off D X') p o) ∧ Src (upd (off D X') p o) s := by
  have n1 : D ≠ p := ne_of_none hD hp
  have n2 : D ≠ s := hs.ne g2
  have o1 : off D X' p = none := off_same.fr hp
  refine ⟨(off_same.ad).wr (upd_none off_at n1), upd_none off_at n1, (Keep.off g1 k g2).trans (Keep.new o1), (hs'.off n2.symm).new o1⟩
theorem grow0 {s D : Addr} {G X X' : Hp} {L : HO} (g1 : Same G X) (g2 : G D = none) (hs : Src G s) (k : Keep s X X') (hs' : Src X' s) :
    Same (off D X') (upd X' D L) ∧ off D X' D = none ∧ Keep s G (off D X') ∧ Src (off D X') s :=
  ⟨off_same.wr off_at, off_at, Keep.off g1 k g2, hs'.off (hs.ne g2).symm⟩
/-- the labels of a drawn record -/
theorem labels {i : Int} (h0 : 0 ≤ i) (h1 : i < 3) : ∃ ls : List Str, cutV [V.str "u", V.str "v", V.str "w"] (some i) none = ls.map V.str ∧ 1 ≤ ls.length ∧ ls.length ≤ 3 ∧ (∀ n ∈ ls, isName n) ∧ ls.Pairwise strLt := by
  rcases (by omega : i = 0 ∨ i = 1 ∨ i = 2) with rfl | rfl | rfl
  · exact ⟨["u", "v", "w"], rfl, by decide, by decide, by decide +kernel, by unfold strLt; decide +kernel⟩
  · exact ⟨["v", "w"], rfl, by decide, by decide, by decide +kernel, by unfold strLt; decide +kernel⟩
  · exact ⟨["w"], rfl, by decide, by decide, by decide +kernel, by unfold strLt; decide +kernel⟩
theorem node_size {h : Hd} {ks : List T} {n m : Nat} (hk : ks.length ≤ m) (hs : ∀ t ∈ ks, t.size ≤ n) : (T.node h ks).size ≤ 1 + m * n := by
  have h1 := sizes_le hs
  have h2 := Nat.mul_le_mul_right n hk
  simp only [T.size]
  omega
theorem node_deep {h : Hd} {ks : List T} {n : Nat} (hs : ∀ t ∈ ks, t.deep ≤ n) : (T.node h ks).deep ≤ 1 + n := by
  have h1 := deeps_le hs
  simp only [T.deep]
  omega
theorem Tm.ne_int {K : PySem.W.Frag} {H : Hp} {v : V} {t : T} (h : Tm K H v t) (i : Int) : v ≠ .int i := fun e => by
  rw [e] at h
  cases h
theorem labelW {ls : List Str} (h : ∀ n ∈ ls, isName n) {v : V} (hv : v ∈ ls.map V.str ++ [V.str "w"]) : ∃ n, v = .str n ∧ isName n := by
  rcases List.mem_append.mp hv with hv | hv
  · obtain ⟨n, hn, e⟩ := List.mem_map.mp hv
    exact ⟨n, e.symm, h n hn⟩
  · exact ⟨"w", List.mem_singleton.mp hv, by decide +kernel⟩
theorem no3_labelW {ls : List Str} (h : ∀ n ∈ ls, isName n) : No3 (ls.map V.str ++ [V.str "w"]) := No3.of_ref fun v hv i e => by
  obtain ⟨n, q, _⟩ := labelW h hv
  rw [e] at q
  cases q
abbrev s_law_record : Stmt := topS 54
abbrev N_law_record : List Str := ["source", "names", "deep", "is_plain", "labels", "fields", "base", "name"]
theorem sc_law_record : FnScope N_law_record ["source", "names", "deep", "is_plain"] (defScope s_law_record) := ⟨rfl, rfl, rfl, by decide +kernel, rfl, by decide +kernel, by decide +kernel⟩
/-- a term drawn with so many levels, below n -/
def spTerm (K : PySem.W.Frag) (n : Nat) : Sp := fun vs H Q _ => ∃ (s l : Addr) (ns : List Str) (d : Nat), vs = [.ref s, .ref l, .int d] ∧ Src H s ∧ H l = some (.lst (ns.map V.str)) ∧ (∀ x ∈ ns, isName x) ∧ d < n ∧ d ≤ 7 ∧ ns.length + 2 * d ≤ 20 ∧
  ∀ (v : V) (H' : Hp) (t : T), Keep s H H' → Src H' s → Tm K (nw H H') v t → Drawn d ns t → Q v H'
/-- a record, a field of one, or one with another field -/
def spRec (K : PySem.W.Frag) (n : Nat) : Sp := fun vs H Q _ => ∃ (s l : Addr) (ns : List Str) (d : Nat) (b : Bool), vs = [.ref s, .ref l, .int (d + 1 : Nat), .bl b] ∧ Src H s ∧ H l = some (.lst (ns.map V.str)) ∧ (∀ x ∈ ns, isName x) ∧ d < n ∧ d ≤ 7 ∧ ns.length + 2 * d ≤ 20 ∧
  ∀ (v : V) (H' : Hp) (t : T), Keep s H H' → Src H' s → Tm K (nw H H') v t → Drawn (d + 1) ns t → Q v H'
section
variable {P : Program} {w : World} {K : PySem.W.Frag} {mg : Str → Option Value} {base : Heap}
theorem ok_record {n : Nat} (S : Stands K mg "_law_record" s_law_record ["source", "names", "deep", "is_plain"]) (Z : Blt mg) (H_law_next : DefOk P w K mg base CX0 1 "_law_next" ["source", "many"] spNext) (H_law_one : DefOk P w K mg base CX0 2 "_law_one" ["source", "some"] (spOne K))
    (H_law_leaf : DefOk P w K mg base CX0 3 "_law_leaf" ["source", "names"] (spLeaf K)) (H_law_term : DefOk P w K mg base CX0 (2 * n + 3) "_law_term" ["source", "names", "deep"] (spTerm K n)) :
    DefOk P w K mg base CX0 (2 * n + 4) "_law_record" ["source", "names", "deep", "is_plain"] (spRec K n) := by
  obtain ⟨f, fd, F, hm, hb⟩ := S
  obtain ⟨f_law_next, fd_law_next, G_law_next, m_law_next, k_law_next, b_law_next⟩ := H_law_next
  obtain ⟨f_law_one, fd_law_one, G_law_one, m_law_one, k_law_one, b_law_one⟩ := H_law_one
  obtain ⟨f_law_leaf, fd_law_leaf, G_law_leaf, m_law_leaf, k_law_leaf, b_law_leaf⟩ := H_law_leaf
  obtain ⟨f_law_term, fd_law_term, G_law_term, m_law_term, k_law_term, b_law_term⟩ := H_law_term
  refine ⟨f, fd, ?_, hm, F.kp, hb⟩
  have nd := sc_law_record.nd
  refine F.ok sc_law_record (fun vs H Q E h => ?_) (fun cdv A outer s0 H vs Q E hr h => ?_)
  · obtain ⟨s, l, ns, d, b, rfl, _⟩ := h
    rfl
  obtain ⟨s, l, ns, d, b, rfl, hs, hl, hn, hd, hd7, hlen, q⟩ := h
  refine ⟨_, (pss_cons (ps_set (i := 4) nd rfl (Or.inl rfl) (pe_slice sl_list (pe_lst (pa_cons pe_str (pa_cons pe_str (pa_cons pe_str pa_nil)))) (po_some (pe_call G_law_next (hr.mono (by omega)) rfl m_law_next k_law_next b_law_next .nil pass0 (pa_cons (pv 0) (pa_cons pe_int pa_nil)))) po_none))
      (pss_cons (ps_setLc (i := 5) (own := [("name", 7)]) (g := gName 7) (tt := tYes) rfl nd rfl rfl (sw_true rfl rfl rfl (by decide +kernel)) (pi_list (pv 4)) (blkOk_by (N := N_law_record) (sc := defScope s_law_record) (by decide +kernel)) (fun _ _ _ _ _ => (pg_name (i := 7) nd rfl (Or.inl rfl))) (fun _ _ _ _ _ => pts_nil) (fun _ _ _ _ _ => (pe_tup (pa_cons (pv 7) (pa_cons (pe_call G_law_term (hr.mono (by omega)) rfl m_law_term k_law_term b_law_term .nil pass0 (pa_cons (pv 0) (pa_cons (pv 1) (pa_cons (pe_op op_sub (pv 2) pe_int) pa_nil)))) pa_nil)))))
      (pss_cons (ps_if (pt_truth (pv 3) (by intro _; rfl)) (pss_one (ps_ret (pe_tup (pa_cons pe_str (pa_cons (pv 5) pa_nil))))) pss_nil)
      (pss_cons (ps_set (i := 6) nd rfl (Or.inl rfl) (pe_call G_law_one (hr.mono (by omega)) rfl m_law_one k_law_one b_law_one .nil pass0 (pa_cons (pv 0) (pa_cons (pe_lst (pa_cons (pe_tup (pa_cons pe_str (pa_cons (pv 5) pa_nil))) (pa_cons (pe_call G_law_leaf (hr.mono (by omega)) rfl m_law_leaf k_law_leaf b_law_leaf .nil pass0 (pa_cons (pv 0) (pa_cons (pv 1) pa_nil))) pa_nil))) pa_nil))))
      (pss_cons (ps_if (pt_cmpR op_eq (pe_call G_law_next (hr.mono (by omega)) rfl m_law_next k_law_next b_law_next .nil pass0 (pa_cons (pv 0) (pa_cons pe_int pa_nil))) pe_int (nomark _)) (pss_one (ps_ret (pe_tup (pa_cons pe_str (pa_cons (pv 6) (pa_cons (pe_call G_law_one (hr.mono (by omega)) rfl m_law_one k_law_one b_law_one .nil pass0 (pa_cons (pv 0) (pa_cons (pe_op op_cat (pv 4) (pe_lst (pa_cons pe_str pa_nil))) pa_nil))) pa_nil)))))) pss_nil)
      (pss_one (ps_ret (pe_tup (pa_cons pe_str (pa_cons (pv 6) (pa_cons (pe_call G_law_one (hr.mono (by omega)) rfl m_law_one k_law_one b_law_one .nil pass0 (pa_cons (pv 0) (pa_cons (pe_op op_cat (pv 4) (pe_lst (pa_cons pe_str pa_nil))) pa_nil))) (pa_cons (pe_call G_law_leaf (hr.mono (by omega)) rfl m_law_leaf k_law_leaf b_law_leaf .nil pass0 (pa_cons (pv 0) (pa_cons (pv 1) pa_nil))) pa_nil)))))))))))), ?_⟩
  walk_at "rd"
  intro p0 hp0
  have S0 := same_new hp0 (.lst [V.str "u", V.str "v", V.str "w"])
  walk_at "rd"
  refine ⟨s, _, rfl, hs.same S0, by omega, by omega, fun i0 H0 i00 i01 k0 hs0 => ?_⟩
  have h0 : H0 p0 = _ := k0.list (hs.same S0) (no3_strs ["u", "v", "w"]) upd_same
  have kA := (Same.keep S0).trans k0
  have hl0 := kA.list hs (no3_strs ns) hl
  walk_at "rd"
  refine ⟨p0, _, rfl, SqL.of h0, fun p1 hp1 => ?_⟩
  obtain ⟨ls, el, l1, l3, lok, lpw⟩ := labels i00 i01
  rw [show cutV (List.map V.str ["u", "v", "w"]) (some i0) none = ls.map V.str from el]
  have S1 := same_new hp1 (.lst (ls.map V.str))
  have kb := kA.same S1
  have hsb := hs0.same S1
  have hlb := S1 _ _ hl0
  have h1b := @upd_same H0 p1 (.lst (ls.map V.str))
  clear S1 S0 hp0 hp1 hs0 h0 kA hl0 k0
  generalize upd H0 p1 (.lst (ls.map V.str)) = Hb at *
  refine ⟨_, rfl, p1, rfl, ⟨_, SqL.of h1b⟩, fun D hD => ?_⟩
  have nD : H D = none := kb.none hsb hD
  refine lc_list (K := K) (a := p1) (xs := ls.map V.str) (fun i X => ∃ (G : Hp) (bs : List Addr) (us : List V) (ts : List T), Same G X ∧ G D = none ∧ Keep s Hb G ∧ Src G s ∧ X D = some (.lst (bs.map V.ref)) ∧ bs.length = i ∧ us.length = i ∧ ts.length = i ∧
      (∀ (j : Nat) (b : Addr) (n : Str) (u : V), bs[j]? = some b → ls[j]? = some n → us[j]? = some u → SqT K (nw H G) b [.str n, u]) ∧ (∀ (j : Nat) (u : V) (t : T), us[j]? = some u → ts[j]? = some t → Tm K (nw H G) u t) ∧ ∀ t ∈ ts, Drawn d ns t)
    ⟨Hb, [], [], [], same_new hD _, hD, Keep.refl _ _, hsb, upd_same, rfl, rfl, rfl, fun _ _ _ _ h => by simp at h, fun _ _ _ h => by simp at h, fun t h => by cases h⟩
    (fun i X hi ⟨G, bs, us, ts, g1, _, g3, _⟩ => SqL.of (g1 _ _ (g3.list hsb (no3_strs ls) h1b))) ?_ ?_
  · rintro i x X hx ⟨G, bs, us, ts, g1, g2, g3, g4, g5, e1, e2, e3, f1, f2, f3⟩
    obtain ⟨n, hn1, hn2, rfl⟩ := get_map hx
    have hi := (List.getElem?_eq_some_iff.mp hn2).1
    walk_at "rd"
    refine ⟨s, l, ns, d, congrArg (fun z => [V.ref s, V.ref l, V.int z]) (by omega), g4.same g1, g1 _ _ (g3.list hsb (no3_strs ns) hlb), hn, hd, hd7, hlen, fun v X' t kx hsx tm dr => ?_⟩
    walk_at "rd"
    intro p hp
    have hD' : X' D = some (.lst (bs.map V.ref)) := kx.list (g4.same g1) (No3.of_ref fun v hv j e => by obtain ⟨b, _, q⟩ := List.mem_map.mp hv; rw [e] at q; cases q) g5
    obtain ⟨a1, a2, a3, a4⟩ := grow (o := .tup [V.str n, v]) (L := .lst (bs.map V.ref ++ [V.ref p])) g1 g2 g4 kx hsx hD' hp
    have kH : Keep s H X' := ((kb.trans g3).same g1).trans kx
    have np : H p = none := kH.none hsx hp
    have b1 : Same (nw H G) (nw H (upd (off D X') p (.tup [V.str n, v]))) := nw_keep a3 hs
    refine ⟨bs.map V.ref, (upd_ne (ne_of_none hD' hp)).trans hD', by rw [List.length_map]; exact small1000 (by omega), upd (off D X') p (.tup [V.str n, v]), bs ++ [p], us ++ [v], ts ++ [t], a1, a2, g3.trans a3, a4, by rw [upd_same, List.map_append]; rfl, by simp [e1], by simp [e2], by simp [e3], ?_, ?_, ?_⟩
    · intro j b m u h1 h2 h3
      by_cases q : j < i
      · rw [List.getElem?_append_left (by omega)] at h1 h3
        exact b1.tupS (f1 j b m u h1 h2 h3)
      · have hj : j = i := by
          have := (List.getElem?_eq_some_iff.mp h1).1
          simp at this
          omega
        subst hj
        rw [List.getElem?_append_right (by omega)] at h1 h3
        simp [e1, e2] at h1 h3
        rw [hn2] at h2
        cases h2
        rw [← h1, ← h3]
        exact SqT.of (nw_at np)
    · intro j u t' h1 h2
      by_cases q : j < i
      · rw [List.getElem?_append_left (by omega)] at h1 h2
        exact (f2 j u t' h1 h2).same b1
      · have hj : j = i := by
          have := (List.getElem?_eq_some_iff.mp h1).1
          simp at this
          omega
        subst hj
        rw [List.getElem?_append_right (by omega)] at h1 h2
        simp [e2, e3] at h1 h2
        rw [← h1, ← h2]
        refine tm.same (fun c o hc => ?_)
        obtain ⟨c1, c2⟩ := nw_get hc
        have c3 : H c = none := ((kb.trans g3).same g1).none (g4.same g1) c1
        rw [nw_of c3, upd_ne (ne_of_none c2 hp), off_ne (fun z => by rw [z, g5] at c1; cases c1)]
        exact c2
    · intro t' ht
      rcases List.mem_append.mp ht with ht | ht
      · exact f3 t' ht
      · rw [List.mem_singleton.mp ht]
        exact dr
  · rintro X ⟨G, bs, us, ts, g1, g2, g3, g4, g5, e1, e2, e3, f1, f2, f3⟩
    rw [List.length_map] at e1 e2 e3
    have kX : Keep s H X := (kb.trans g3).same g1
    have hsX := g4.same g1
    have hlX := g1 _ _ (g3.list hsb (no3_strs ns) hlb)
    have h1X := g1 _ _ (g3.list hsb (no3_strs ls) h1b)
    have tR : ∀ p2, X p2 = none → Tm K (nw H (upd X p2 (.tup [V.str "record", V.ref D]))) (.ref p2) (.node (.record ls) ts) := fun p2 hp2 => by
      have c := nw_same (H := H) (same_new hp2 (.tup [V.str "record", V.ref D]))
      exact .record (SqT.of (nw_at (kX.none hsX hp2))) (SqL.of (c _ _ ((nw_of nD).trans g5))) (by omega) (by omega) (by omega) (fun j b n u a1 a2 a3 => c.tupS ((nw_same g1).tupS (f1 j b n u a1 a2 a3))) (fun j u t a1 a2 => ((f2 j u t a1 a2).same (nw_same g1)).same c)
    have wR : Wf (.node (.record ls) ts) := .mk ⟨by omega, by omega, lok, lpw⟩ trivial (by omega) fun t ht => (f3 t ht).1
    have zR : (T.node (.record ls) ts).size ≤ 1 + 3 * szOf d := node_size (by omega) fun t ht => (f3 t ht).2.1
    have dR : (T.node (.record ls) ts).deep ≤ 1 + (2 * d + 1) := node_deep fun t ht => (f3 t ht).2.2.1
    have cR : Sc ns (.node (.record ls) ts) := scL (fun n => nofun) (fun i => rfl) fun t ht => (f3 t ht).2.2.2
    clear f1 f2 f3 hsb hlb h1b hD kb g1 g2 g3 g4 G
    cases b with
    | true =>
      walk_at "rd"
      intro p2 hp2
      exact q _ _ _ (kX.trans (Keep.new hp2)) (hsX.new hp2) (tR p2 hp2) ⟨wR, by simp only [szOf]; omega, by omega, cR⟩
    | false =>
      walk_at "rd"
      intro p2 hp2
      have S2 := same_new hp2 (.tup [V.str "record", V.ref D])
      have t2 := tR p2 hp2
      have k2 := kX.same S2
      have hs2 := hsX.same S2
      have hl2 := S2 _ _ hlX
      have h12 := S2 _ _ h1X
      clear tR kX hsX hlX h1X g5
      generalize upd X p2 (.tup [V.str "record", V.ref D]) = X2 at *
      walk_at "rd"
      refine ⟨s, l, ns, rfl, hs2, SqL.of hl2, hn, by omega, fun v3 X3 t3 k3 hs3 m3 r3 => ?_⟩
      walk_at "rd"
      intro p4 hp4
      have S4 := same_new hp4 (.lst [V.ref p2, v3])
      have k4 := (k2.trans k3).same S4
      have hs4 := hs3.same S4
      have hb4 : ∀ v ∈ [V.ref p2, v3], ∃ t, Tm K (nw H _) v t ∧ Wf t ∧ t.size ≤ 1 + 3 * szOf d ∧ t.deep ≤ 1 + (2 * d + 1) ∧ Sc ns t := fun v hv => by
        simp only [List.mem_cons, List.not_mem_nil, or_false] at hv
        rcases hv with rfl | rfl
        · exact ⟨_, (t2.same (nw_keep k3 hs)).same (nw_same S4), wR, zR, dR, cR⟩
        · obtain ⟨r1, r2, r3, r4⟩ := r3
          simp only [szOf] at r2
          exact ⟨_, (m3.same (nw_in k2 hs2)).same (nw_same S4), r1, by omega, by omega, r4⟩
      have hl4 := S4 _ _ (k3.list hs2 (no3_strs ns) hl2)
      have h14 := S4 _ _ (k3.list hs2 (no3_strs ls) h12)
      refine ⟨s, p4, _, rfl, hs4, SqL.of upd_same, No3.of_ref fun v hv j e => ?_, by simp, by simp, fun vb X5 hvb k5 hs5 => ?_⟩
      · obtain ⟨t, m, _⟩ := hb4 v hv
        exact m.ne_int j e
      obtain ⟨tb, mb, wb, zb, db, cb⟩ := hb4 vb hvb
      have mb5 := mb.same (nw_keep k5 hs)
      have kH5 := k4.trans k5
      have hl5 := k5.list hs4 (no3_strs ns) hl4
      have h15 := k5.list hs4 (no3_strs ls) h14
      clear hb4 t2 m3 mb k2 k3 k4 hs2 hs3 hs4 hl4 h14 hl2 h12 wR zR dR cR S2 S4 hp4 k5
      walk_at "rd"
      refine ⟨s, _, rfl, hs5, by omega, by omega, fun i6 X6 i60 i61 k6 hs6 => ?_⟩
      have mb6 := mb5.same (nw_keep k6 hs)
      have kH6 := kH5.trans k6
      have hl6 := k6.list hs5 (no3_strs ns) hl5
      have h16 := k6.list hs5 (no3_strs ls) h15
      clear mb5 kH5 hl5 h15
      walk_at "rd"
      refine ite2 (fun c => ?_) (fun c => ?_)
      · walk_at "rd"
        intro p7 hp7
        have S7 := same_new hp7 (.lst [V.str "w"])
        refine ⟨p1, p7, _, _, rfl, rfl, S7 _ _ h16, upd_same, sz (by simp; omega), fun p8 hp8 => ?_⟩
        have S8 := same_new hp8 (.lst (ls.map V.str ++ [V.str "w"]))
        have S78 := S7.trans S8
        refine ⟨s, p8, _, rfl, hs6.same S78, SqL.of upd_same, no3_labelW lok, by simp, by simp; omega, fun v9 X9 hv9 k9 hs9 => ?_⟩
        obtain ⟨n9, rfl, ok9⟩ := labelW lok hv9
        walk_at "rd"
        intro p10 hp10
        have S10 := same_new hp10 (.tup [V.str "field", vb, V.str n9])
        have kE := (kH6.same S78).trans k9
        exact q _ _ (.node (.field n9) [tb]) (kE.same S10) (hs9.same S10) (.field (SqT.of (nw_at (kE.none hs9 hp10))) (((mb6.same (nw_same S78)).same (nw_keep k9 hs)).same (nw_same S10)))
          ⟨.mk ⟨rfl, ok9⟩ trivial (by simp) (fun t ht => by rw [List.mem_singleton.mp ht]; exact wb), by simp only [T.size, T.sizes, szOf]; omega, by simp only [T.deep, T.deeps]; omega, sc1 (fun n => nofun) cb⟩
      · walk_at "rd"
        intro p7 hp7
        have S7 := same_new hp7 (.lst [V.str "w"])
        refine ⟨p1, p7, _, _, rfl, rfl, S7 _ _ h16, upd_same, sz (by simp; omega), fun p8 hp8 => ?_⟩
        have S8 := same_new hp8 (.lst (ls.map V.str ++ [V.str "w"]))
        have S78 := S7.trans S8
        refine ⟨s, p8, _, rfl, hs6.same S78, SqL.of upd_same, no3_labelW lok, by simp, by simp; omega, fun v9 X9 hv9 k9 hs9 => ?_⟩
        obtain ⟨n9, rfl, ok9⟩ := labelW lok hv9
        have kH9 := (kH6.same S78).trans k9
        walk_at "rd"
        refine ⟨s, l, ns, rfl, hs9, SqL.of (k9.list (hs6.same S78) (no3_strs ns) (S78 _ _ hl6)), hn, by omega, fun va Xa ta ka hsa ma ra => ?_⟩
        walk_at "rd"
        intro p10 hp10
        have S10 := same_new hp10 (.tup [V.str "with", vb, V.str n9, va])
        have kE := kH9.trans ka
        obtain ⟨r1, r2, r3, r4⟩ := ra
        simp only [szOf] at r2
        have pd := szOf_pos d
        exact q _ _ (.node (.wth n9) [tb, ta]) (kE.same S10) (hsa.same S10) (.wth (SqT.of (nw_at (kE.none hsa hp10))) ((((mb6.same (nw_same S78)).same (nw_keep k9 hs)).same (nw_keep ka hs)).same (nw_same S10)) ((ma.same (nw_in kH9 hs9)).same (nw_same S10)))
          ⟨.mk ⟨rfl, ok9⟩ trivial (by simp) (fun t ht => by simp at ht; rcases ht with rfl | rfl <;> assumption), by simp only [T.size, T.sizes, szOf]; omega, by simp only [T.deep, T.deeps]; omega, sc2 (fun n => nofun) cb r4⟩
end
end Vt


set_option Elab.async false
set_option linter.all false
set_option maxRecDepth 100000
set_option maxHeartbeats 4000000

namespace Vt
open PySem PySem.Spec PyProof.Rows L2
theorem subs1 {ns : List Str} (own : Str) : ∀ n ∈ ns ++ [own], n ∈ own :: ns := fun n h => by simp at h ⊢; rcases h with h | h <;> simp [h]
theorem subs2 {ns : List Str} (own : Str) : ∀ n ∈ ns ++ [own, own], n ∈ own :: ns := fun n h => by simp at h ⊢; rcases h with h | h <;> simp [h]
theorem subs3 {ns : List Str} (own r : Str) : ∀ n ∈ ns ++ [own, r], n ∈ r :: own :: ns := fun n h => by simp at h ⊢; rcases h with h | h | h <;> simp [h]
abbrev s_law_term : Stmt := topS 53
abbrev N_law_term : List Str := ["source", "names", "deep", "way", "own", "first", "second", "k"]
theorem sc_law_term : FnScope N_law_term ["source", "names", "deep"] (defScope s_law_term) := ⟨rfl, rfl, rfl, by decide +kernel, rfl, by decide +kernel, by decide +kernel⟩
section
variable {P : Program} {w : World} {K : PySem.W.Frag} {mg : Str → Option Value} {base : Heap}
theorem ok_term {n : Nat} (S : Stands K mg "_law_term" s_law_term ["source", "names", "deep"]) (Z : Blt mg) (H_law_next : DefOk P w K mg base CX0 1 "_law_next" ["source", "many"] spNext) (H_law_one : DefOk P w K mg base CX0 2 "_law_one" ["source", "some"] (spOne K))
    (H_law_leaf : DefOk P w K mg base CX0 3 "_law_leaf" ["source", "names"] (spLeaf K)) (H_law_term : DefOk P w K mg base CX0 (2 * n + 3) "_law_term" ["source", "names", "deep"] (spTerm K n))
    (H_law_record : DefOk P w K mg base CX0 (2 * n + 4) "_law_record" ["source", "names", "deep", "is_plain"] (spRec K n)) :
    DefOk P w K mg base CX0 (2 * n + 5) "_law_term" ["source", "names", "deep"] (spTerm K (n + 1)) := by
  have z_int := Z.int
  have z_len := Z.len
  have z_range := Z.range
  obtain ⟨f, fd, F, hm, hb⟩ := S
  obtain ⟨f_law_next, fd_law_next, G_law_next, m_law_next, k_law_next, b_law_next⟩ := H_law_next
  obtain ⟨f_law_one, fd_law_one, G_law_one, m_law_one, k_law_one, b_law_one⟩ := H_law_one
  obtain ⟨f_law_leaf, fd_law_leaf, G_law_leaf, m_law_leaf, k_law_leaf, b_law_leaf⟩ := H_law_leaf
  obtain ⟨f_law_term, fd_law_term, G_law_term, m_law_term, k_law_term, b_law_term⟩ := H_law_term
  obtain ⟨f_law_record, fd_law_record, G_law_record, m_law_record, k_law_record, b_law_record⟩ := H_law_record
  refine ⟨f, fd, ?_, hm, F.kp, hb⟩
  have nd := sc_law_term.nd
  refine F.ok sc_law_term (fun vs H Q E h => ?_) (fun cdv A outer s0 H vs Q E hr h => ?_)
  · obtain ⟨s, l, ns, d, rfl, _⟩ := h
    rfl
  obtain ⟨s, l, ns, d, rfl, hs, hl, hn, hd, hd7, hlen, q⟩ := h
  refine ⟨_, (pss_cons (ps_set (i := 3) nd rfl (Or.inl rfl) (pe_call G_law_next (hr.mono (by omega)) rfl m_law_next k_law_next b_law_next .nil pass0 (pa_cons (pv 0) (pa_cons pe_int pa_nil))))
      (pss_cons (ps_if (PW.pt (pw_or (pt_cmpR op_eq (pv 2) pe_int (nomark _)) (pw_or1 (pt_cmpR op_eq (pv 3) pe_int (nomark _))))) (pss_one (ps_ret (pe_call G_law_leaf (hr.mono (by omega)) rfl m_law_leaf k_law_leaf b_law_leaf .nil pass0 (pa_cons (pv 0) (pa_cons (pv 1) pa_nil))))) pss_nil)
      (pss_cons (ps_set (i := 4) nd rfl (Or.inl rfl) (pe_op op_add_str (pe_op op_add_str (pe_op op_add_str (pe_ix ix_str pe_str (pv 2) (fun _ _ => rfl)) (pe_ix ix_str pe_str (pe_call G_law_next (hr.mono (by omega)) rfl m_law_next k_law_next b_law_next .nil pass0 (pa_cons (pv 0) (pa_cons pe_int pa_nil))) (fun _ _ => rfl))) (pe_ix ix_str pe_str (pe_op op_mod (pe_callTy call_int1 (by rfl) z_int (by decide +kernel) (pa_cons (pe_callB call_len_seq (by rfl) z_len (by decide +kernel) (pa_cons (pv 1) pa_nil)) pa_nil)) pe_int) (fun _ _ => rfl))) (pe_op op_mul_str pe_str (pe_op op_fdiv (pe_callB call_len_seq (by rfl) z_len (by decide +kernel) (pa_cons (pv 1) pa_nil)) pe_int))))
      (pss_cons (ps_if (pt_cmpR op_in_seq (pv 3) (pe_tup (pa_cons pe_int (pa_cons pe_int pa_nil))) (by rfl)) (pss_one (ps_ret (pe_tup (pa_cons pe_str (pa_cons (pv 4) (pa_cons (pe_call G_law_term (hr.mono (by omega)) rfl m_law_term k_law_term b_law_term .nil pass0 (pa_cons (pv 0) (pa_cons (pe_op op_cat (pv 1) (pe_lst (pa_cons (pv 4) pa_nil))) (pa_cons (pe_op op_sub (pv 2) pe_int) pa_nil)))) pa_nil)))))) pss_nil)
      (pss_cons (ps_if (pt_cmpR op_in_seq (pv 3) (pe_tup (pa_cons pe_int (pa_cons pe_int pa_nil))) (by rfl)) (pss_cons (ps_set (i := 5) nd rfl (Or.inl rfl) (pe_call G_law_term (hr.mono (by omega)) rfl m_law_term k_law_term b_law_term .nil pass0 (pa_cons (pv 0) (pa_cons (pv 1) (pa_cons (pe_op op_sub (pv 2) pe_int) pa_nil)))))
      (pss_one (ps_ret (pe_tup (pa_cons pe_str (pa_cons (pv 5) (pa_cons (pe_call G_law_term (hr.mono (by omega)) rfl m_law_term k_law_term b_law_term .nil pass0 (pa_cons (pv 0) (pa_cons (pv 1) (pa_cons (pe_op op_sub (pv 2) pe_int) pa_nil)))) pa_nil))))))) pss_nil)
      (pss_cons (ps_if (pt_cmpR op_in_seq (pv 3) (pe_tup (pa_cons pe_int (pa_cons pe_int pa_nil))) (by rfl)) (pss_cons (ps_set (i := 5) nd rfl (Or.inl rfl) (pe_call G_law_term (hr.mono (by omega)) rfl m_law_term k_law_term b_law_term .nil pass0 (pa_cons (pv 0) (pa_cons (pv 1) (pa_cons (pe_op op_sub (pv 2) pe_int) pa_nil)))))
      (pss_one (ps_ret (pe_tup (pa_cons pe_str (pa_cons (pv 4) (pa_cons (pv 5) (pa_cons (pe_call G_law_term (hr.mono (by omega)) rfl m_law_term k_law_term b_law_term .nil pass0 (pa_cons (pv 0) (pa_cons (pe_op op_cat (pv 1) (pe_lst (pa_cons (pv 4) (pa_cons (pv 4) pa_nil)))) (pa_cons (pe_op op_sub (pv 2) pe_int) pa_nil)))) pa_nil)))))))) pss_nil)
      (pss_cons (ps_if (pt_cmpR op_eq (pv 3) pe_int (nomark _)) (pss_cons (ps_set (i := 5) nd rfl (Or.inl rfl) (pe_tup (pa_cons pe_str (pa_cons (pe_op op_add_str (pv 4) pe_str) (pa_cons (pe_call G_law_term (hr.mono (by omega)) rfl m_law_term k_law_term b_law_term .nil pass0 (pa_cons (pv 0) (pa_cons (pe_op op_cat (pv 1) (pe_lst (pa_cons (pv 4) (pa_cons (pe_op op_add_str (pv 4) pe_str) pa_nil)))) (pa_cons (pe_op op_sub (pv 2) pe_int) pa_nil)))) pa_nil)))))
      (pss_one (ps_ret (pe_tup (pa_cons pe_str (pa_cons (pv 4) (pa_cons (pv 5) (pa_cons (pe_call G_law_term (hr.mono (by omega)) rfl m_law_term k_law_term b_law_term .nil pass0 (pa_cons (pv 0) (pa_cons (pe_op op_cat (pv 1) (pe_lst (pa_cons (pv 4) (pa_cons (pv 4) pa_nil)))) (pa_cons (pe_op op_sub (pv 2) pe_int) pa_nil)))) pa_nil)))))))) pss_nil)
      (pss_cons (ps_if (pt_cmpR op_eq (pv 3) pe_int (nomark _)) (pss_cons (ps_par (i := 5) (j := 6) (by rfl) nd rfl rfl (by decide) rfl rfl (pa_cons (pe_call G_law_term (hr.mono (by omega)) rfl m_law_term k_law_term b_law_term .nil pass0 (pa_cons (pv 0) (pa_cons (pv 1) (pa_cons (pe_op op_sub (pv 2) pe_int) pa_nil)))) (pa_cons (pe_call G_law_leaf (hr.mono (by omega)) rfl m_law_leaf k_law_leaf b_law_leaf .nil pass0 (pa_cons (pv 0) (pa_cons (pv 1) pa_nil))) pa_nil)) (by rfl))
      (pss_one (ps_ret (pe_tup (pa_cons pe_str (pa_cons (pe_call G_law_one (hr.mono (by omega)) rfl m_law_one k_law_one b_law_one .nil pass0 (pa_cons (pv 0) (pa_cons (pe_lst (pa_cons (pe_tup (pa_cons pe_str (pa_cons pe_bl pa_nil))) (pa_cons (pv 6) pa_nil))) pa_nil))) (pa_cons (pv 5) (pa_cons (pe_call G_law_one (hr.mono (by omega)) rfl m_law_one k_law_one b_law_one .nil pass0 (pa_cons (pv 0) (pa_cons (pe_lst (pa_cons (pv 5) (pa_cons (pv 6) pa_nil))) pa_nil))) pa_nil)))))))) pss_nil)
      (pss_cons (ps_if (pt_cmpR op_eq (pv 3) pe_int (nomark _)) (pss_one (ps_ret (pe_tup (pa_cons pe_str (pa_cons (pe_lc (own := [("k", 7)]) (g := gName 7) (tt := tYes) rfl nd (pi_range1 (by rfl) z_range (pa_cons (pe_op op_add pe_int (pe_call G_law_next (hr.mono (by omega)) rfl m_law_next k_law_next b_law_next .nil pass0 (pa_cons (pv 0) (pa_cons pe_int pa_nil)))) pa_nil)) (blkOk_by (N := N_law_term) (sc := defScope s_law_term) (by decide +kernel)) (fun _ _ _ _ _ => (pg_name (i := 7) nd rfl (Or.inl rfl))) (fun _ _ _ _ _ => pts_nil) (fun _ _ _ _ _ => (pe_call G_law_term (hr.mono (by omega)) rfl m_law_term k_law_term b_law_term .nil pass0 (pa_cons (pv 0) (pa_cons (pv 1) (pa_cons (pe_op op_sub (pv 2) pe_int) pa_nil)))))) pa_nil))))) pss_nil)
      (pss_cons (ps_if (pt_cmpR op_eq (pv 3) pe_int (nomark _)) (pss_cons (ps_set (i := 5) nd rfl (Or.inl rfl) (pe_tup (pa_cons pe_str (pa_cons (pe_lst (pa_cons (pe_call G_law_term (hr.mono (by omega)) rfl m_law_term k_law_term b_law_term .nil pass0 (pa_cons (pv 0) (pa_cons (pv 1) (pa_cons (pe_op op_sub (pv 2) pe_int) pa_nil)))) (pa_cons (pe_call G_law_leaf (hr.mono (by omega)) rfl m_law_leaf k_law_leaf b_law_leaf .nil pass0 (pa_cons (pv 0) (pa_cons (pv 1) pa_nil))) pa_nil))) pa_nil))))
      (pss_one (ps_ret (pe_tup (pa_cons pe_str (pa_cons (pe_call G_law_next (hr.mono (by omega)) rfl m_law_next k_law_next b_law_next .nil pass0 (pa_cons (pv 0) (pa_cons pe_int pa_nil))) (pa_cons pe_int (pa_cons (pe_call G_law_one (hr.mono (by omega)) rfl m_law_one k_law_one b_law_one .nil pass0 (pa_cons (pv 0) (pa_cons (pe_lst (pa_cons (pv 5) (pa_cons (pv 5) (pa_cons (pe_call G_law_leaf (hr.mono (by omega)) rfl m_law_leaf k_law_leaf b_law_leaf .nil pass0 (pa_cons (pv 0) (pa_cons (pv 1) pa_nil))) pa_nil)))) pa_nil))) pa_nil)))))))) pss_nil)
      (pss_one (ps_ret (pe_call G_law_record (hr.mono (by omega)) rfl m_law_record k_law_record b_law_record .nil pass0 (pa_cons (pv 0) (pa_cons (pv 1) (pa_cons (pv 2) (pa_cons (pe_cmpR op_eq (pv 3) pe_int (nomark _)) pa_nil))))))))))))))))), ?_⟩
  walk_at "rd"
  refine ⟨s, _, rfl, hs, by omega, by omega, fun way H1 w0 w1 k1 hs1 => ?_⟩
  have hl1 := k1.list hs (no3_strs ns) hl
  have leafy : ∀ t, Drawn 0 ns t → Drawn d ns t := fun t r => by
    obtain ⟨r1, r2, r3, r4⟩ := r
    have pd := szOf_pos d
    simp only [szOf] at r2
    exact ⟨r1, by omega, by omega, r4⟩
  walk_at "rd"
  refine ite2 (fun c => ?_) (fun c => ?_)
  · walk_at "rd"
    exact ⟨s, l, ns, rfl, hs1, SqL.of hl1, hn, by omega, fun v H2 t k2 hs2 m r => q v H2 t (k1.trans k2) hs2 (m.same (nw_in k1 hs1)) (leafy t r)⟩
  walk_at "rd"
  refine ite2 (fun c' => ?_) (fun c' => ?_)
  · walk_at "rd"
    exact ⟨s, l, ns, rfl, hs1, SqL.of hl1, hn, by omega, fun v H2 t k2 hs2 m r => q v H2 t (k1.trans k2) hs2 (m.same (nw_in k1 hs1)) (leafy t r)⟩
  have hd0 : d ≠ 0 := fun z => c (by rw [z]; rfl)
  obtain ⟨e, rfl⟩ : ∃ e, d = e + 1 := ⟨d - 1, by omega⟩
  clear leafy c c'
  obtain ⟨c1, hc1, hm1⟩ := sign_at (x := "abcdefgh") (n := 8) (by decide +kernel) (i := ((e + 1 : Nat) : Int)) (by omega) (by omega)
  walk_at "rd"
  refine ⟨_, _, c1, rfl, rfl, by decide +kernel, hc1, ?_⟩
  walk_at "rd"
  refine ⟨s, _, rfl, hs1, by omega, by omega, fun i2 H2 i20 i21 k2 hs2 => ?_⟩
  have kX := k1.trans k2
  have hlX := k2.list hs1 (no3_strs ns) hl1
  clear hl1 k1 hs1 k2
  obtain ⟨c2, hc2, hm2⟩ := sign_at (x := "xyz") (n := 3) (by decide +kernel) (i := i2) (by omega) (by omega)
  refine ⟨_, _, c2, rfl, rfl, by decide +kernel, hc2, ?_⟩
  refine ⟨_, _, rfl, rfl, (by show 1 + 1 ≤ sizeLine; decide), ?_⟩
  walk_at "rd"
  refine ⟨l, _, rfl, .inl (SqL.of hlX), ?_⟩
  walk_at "rd"
  have el : (List.map V.str ns).length = ns.length := List.length_map _
  obtain ⟨c3, hc3, hm3⟩ := sign_at (x := "klmnop") (n := 6) (by decide +kernel) (i := (((List.map V.str ns).length : Nat) : Int) % 6) (by omega) (by omega)
  refine ⟨_, _, c3, rfl, rfl, by decide +kernel, hc3, ?_⟩
  refine ⟨_, _, rfl, rfl, (by show 2 + 1 ≤ sizeLine; decide), ?_⟩
  walk_at "rd"
  refine ⟨l, _, rfl, .inl (SqL.of hlX), ?_⟩
  walk_at "rd"
  obtain ⟨q1, q2, q3⟩ := q_times (i := (((List.map V.str ns).length : Nat) : Int) / 6) (by omega) (by omega)
  refine ⟨q1, ?_⟩
  have low1 : low ((((⟨#[c1]⟩ : Str) ++ ⟨#[c2]⟩) ++ ⟨#[c3]⟩) ++ PySem.Txt.mul "q" ((((List.map V.str ns).length : Nat) : Int) / 6)) :=
    low_add (low_add (low_add (low_sign (by decide +kernel : low "abcdefgh") hm1) (low_sign (by decide +kernel : low "xyz") hm2)) (low_sign (by decide +kernel : low "klmnop") hm3)) q3
  have len1 : ((((⟨#[c1]⟩ : Str) ++ ⟨#[c2]⟩) ++ ⟨#[c3]⟩) ++ PySem.Txt.mul "q" ((((List.map V.str ns).length : Nat) : Int) / 6)).length = 3 + (PySem.Txt.mul "q" ((((List.map V.str ns).length : Nat) : Int) / 6)).length := by
    rw [len_add]
    rfl
  refine ⟨_, _, rfl, rfl, sz (by show 3 + _ ≤ 1000; omega), ?_⟩
  generalize (((⟨#[c1]⟩ : Str) ++ ⟨#[c2]⟩) ++ ⟨#[c3]⟩) ++ PySem.Txt.mul "q" ((((List.map V.str ns).length : Nat) : Int) / 6) = own at *
  have own6 : own.length ≤ 6 := by omega
  have own1 : isName own := low_name low1 (by omega) (by omega)
  have hszE : szOf (e + 1) = 3 * szOf e + 3 := rfl
  have pd := szOf_pos e
  clear hc1 hm1 hc2 hm2 hc3 hm3 q1 q2 q3 el
  clear c1 c2 c3 i20 i21
  walk_at "rd"
  intro pt0 hpt0
  have St0 := same_new hpt0 (.tup [V.int 1, V.int 2])
  replace kX := kX.same St0
  replace hs2 := hs2.same St0
  replace hlX := St0 _ _ hlX
  refine ⟨pt0, _, rfl, .inr (SqT.of upd_same), rfl, rfl, _, rfl, ?_⟩
  clear St0
  generalize upd _ pt0 (HO.tup [V.int 1, V.int 2]) = Y0 at *
  refine ite2 (fun c0 => ?_) (fun c0 => ?_)
  · walk_at "rd"
    intro pa0 hpa0
    have Sa0 := same_new hpa0 (.lst [V.str (own)])
    refine ⟨l, pa0, _, _, rfl, rfl, Sa0 _ _ hlX, upd_same, sz (by simp; omega), fun lf hplf => ?_⟩
    have Slf := Sa0.trans (same_new hplf (.lst (ns.map V.str ++ [V.str (own)])))
    have hlf : upd (upd Y0 pa0 (.lst [V.str (own)])) lf (.lst (ns.map V.str ++ [V.str (own)])) lf = some (.lst ((ns ++ [own]).map V.str)) := by
      rw [upd_same, List.map_append]
      rfl
    walk_at "rd"
    refine ⟨s, lf, ns ++ [own], e, congrArg (fun z => [V.ref s, V.ref lf, V.int z]) (by omega), hs2.same Slf, hlf, (fun x hx => by rcases List.mem_append.mp hx with hx | hx; exact hn x hx; rw [List.mem_singleton.mp hx]; exact own1), by omega, by omega, by simp; omega, fun v3 X3 t3 k3 hs3 m3 r3 => ?_⟩

    have k4 := kX.same Slf
    have k5 := k4.trans k3
    obtain ⟨r31, r32, r33, r34⟩ := r3
    walk_at "rd"
    intro p6 hp6
    have S6 := same_new hp6 (.tup [V.str "fun", V.str own, v3])
    exact q _ _ (.node (.fn own) [t3]) (k5.same S6) (hs3.same S6) (.fn (SqT.of (nw_at (k5.none hs3 hp6))) ((m3.same (nw_in k4 (hs2.same Slf))).same (nw_same S6)))
      ⟨.mk ⟨rfl, own1⟩ trivial (by simp) (fun t ht => by rw [List.mem_singleton.mp ht]; exact r31), by simp only [T.size, T.sizes]; omega, by simp only [T.deep, T.deeps]; omega, sc1 (fun n => nofun) (r34.mono (subs1 own))⟩
  walk_at "rd"
  intro pt1 hpt1
  have St1 := same_new hpt1 (.tup [V.int 3, V.int 4])
  replace kX := kX.same St1
  replace hs2 := hs2.same St1
  replace hlX := St1 _ _ hlX
  refine ⟨pt1, _, rfl, .inr (SqT.of upd_same), rfl, rfl, _, rfl, ?_⟩
  clear St1
  generalize upd _ pt1 (HO.tup [V.int 3, V.int 4]) = Y1 at *
  refine ite2 (fun c1 => ?_) (fun c1 => ?_)
  · walk_at "rd"
    refine ⟨s, l, ns, e, congrArg (fun z => [V.ref s, V.ref l, V.int z]) (by omega), hs2, hlX, hn, by omega, by omega, by omega, fun v3 X3 t3 k3 hs3 m3 r3 => ?_⟩

    have k4 := kX.trans k3
    have hl3 := k3.list hs2 (no3_strs ns) hlX
    obtain ⟨r31, r32, r33, r34⟩ := r3
    walk_at "rd"
    refine ⟨s, l, ns, e, congrArg (fun z => [V.ref s, V.ref l, V.int z]) (by omega), hs3, hl3, hn, by omega, by omega, by omega, fun v5 X5 t5 k5 hs5 m5 r5 => ?_⟩

    have k6 := k4.trans k5
    obtain ⟨r51, r52, r53, r54⟩ := r5
    walk_at "rd"
    intro p6 hp6
    have S6 := same_new hp6 (.tup [V.str "app", v3, v5])
    exact q _ _ (.node .app [t3, t5]) (k6.same S6) (hs5.same S6) (.app (SqT.of (nw_at (k6.none hs5 hp6))) (((m3.same (nw_in kX hs2)).same (nw_keep k5 hs)).same (nw_same S6)) ((m5.same (nw_in k4 hs3)).same (nw_same S6)))
      ⟨.mk rfl trivial (by simp) (fun t ht => by simp at ht; rcases ht with rfl | rfl <;> assumption), by simp only [T.size, T.sizes]; omega, by simp only [T.deep, T.deeps]; omega, sc2 (fun n => nofun) r34 r54⟩
  walk_at "rd"
  intro pt2 hpt2
  have St2 := same_new hpt2 (.tup [V.int 5, V.int 6])
  replace kX := kX.same St2
  replace hs2 := hs2.same St2
  replace hlX := St2 _ _ hlX
  refine ⟨pt2, _, rfl, .inr (SqT.of upd_same), rfl, rfl, _, rfl, ?_⟩
  clear St2
  generalize upd _ pt2 (HO.tup [V.int 5, V.int 6]) = Y2 at *
  refine ite2 (fun c2 => ?_) (fun c2 => ?_)
  · walk_at "rd"
    refine ⟨s, l, ns, e, congrArg (fun z => [V.ref s, V.ref l, V.int z]) (by omega), hs2, hlX, hn, by omega, by omega, by omega, fun v3 X3 t3 k3 hs3 m3 r3 => ?_⟩

    have k4 := kX.trans k3
    replace hlX := k3.list hs2 (no3_strs ns) hlX
    obtain ⟨r31, r32, r33, r34⟩ := r3
    walk_at "rd"
    intro pa0 hpa0
    have Sa0 := same_new hpa0 (.lst [V.str (own), V.str (own)])
    refine ⟨l, pa0, _, _, rfl, rfl, Sa0 _ _ hlX, upd_same, sz (by simp; omega), fun lf hplf => ?_⟩
    have Slf := Sa0.trans (same_new hplf (.lst (ns.map V.str ++ [V.str (own), V.str (own)])))
    have hlf : upd (upd X3 pa0 (.lst [V.str (own), V.str (own)])) lf (.lst (ns.map V.str ++ [V.str (own), V.str (own)])) lf = some (.lst ((ns ++ [own, own]).map V.str)) := by
      rw [upd_same, List.map_append]
      rfl
    walk_at "rd"
    refine ⟨s, lf, ns ++ [own, own], e, congrArg (fun z => [V.ref s, V.ref lf, V.int z]) (by omega), hs3.same Slf, hlf, (fun x hx => by rcases List.mem_append.mp hx with hx | hx; exact hn x hx; (simp at hx; rw [hx]; exact own1)), by omega, by omega, by simp; omega, fun v5 X5 t5 k5 hs5 m5 r5 => ?_⟩

    have k4b := k4.same Slf
    have k6 := k4b.trans k5
    obtain ⟨r51, r52, r53, r54⟩ := r5
    walk_at "rd"
    intro p6 hp6
    have S6 := same_new hp6 (.tup [V.str "let", V.str own, v3, v5])
    exact q _ _ (.node (.lt own) [t3, t5]) (k6.same S6) (hs5.same S6) (.lt (SqT.of (nw_at (k6.none hs5 hp6))) ((((m3.same (nw_in kX hs2)).same (nw_same Slf)).same (nw_keep k5 hs)).same (nw_same S6)) ((m5.same (nw_in k4b (hs3.same Slf))).same (nw_same S6)))
      ⟨.mk ⟨rfl, own1⟩ trivial (by simp) (fun t ht => by simp at ht; rcases ht with rfl | rfl <;> assumption), by simp only [T.size, T.sizes]; omega, by simp only [T.deep, T.deeps]; omega, sc2 (fun n => nofun) r34 (r54.mono (subs2 own))⟩
  walk_at "rd"
  refine ite2 (fun c3 => ?_) (fun c3 => ?_)
  · walk_at "rd"
    have ownr : isName (own ++ "r") := low_name (low_add low1 (by decide +kernel)) (by rw [len_add]; omega) (by rw [len_add]; show own.length + 1 ≤ 8; omega)
    refine ⟨sz (by show own.length + 1 ≤ 1000; omega), ?_⟩
    walk_at "rd"
    refine ⟨sz (by show own.length + 1 ≤ 1000; omega), ?_⟩
    walk_at "rd"
    intro pa0 hpa0
    have Sa0 := same_new hpa0 (.lst [V.str (own), V.str (own ++ "r")])
    refine ⟨l, pa0, _, _, rfl, rfl, Sa0 _ _ hlX, upd_same, sz (by simp; omega), fun lf hplf => ?_⟩
    have Slf := Sa0.trans (same_new hplf (.lst (ns.map V.str ++ [V.str (own), V.str (own ++ "r")])))
    have hlf : upd (upd Y2 pa0 (.lst [V.str (own), V.str (own ++ "r")])) lf (.lst (ns.map V.str ++ [V.str (own), V.str (own ++ "r")])) lf = some (.lst ((ns ++ [own, own ++ "r"]).map V.str)) := by
      rw [upd_same, List.map_append]
      rfl
    walk_at "rd"
    refine ⟨s, lf, ns ++ [own, own ++ "r"], e, congrArg (fun z => [V.ref s, V.ref lf, V.int z]) (by omega), hs2.same Slf, hlf, (fun x hx => by rcases List.mem_append.mp hx with hx | hx; exact hn x hx; (simp at hx; rcases hx with rfl | rfl; exact own1; exact ownr)), by omega, by omega, by simp; omega, fun v3 X3 t3 k3 hs3 m3 r3 => ?_⟩

    have k4b := kX.same Slf
    have k4 := k4b.trans k3
    replace hlX := k3.list (hs2.same Slf) (no3_strs ns) (Slf _ _ hlX)
    obtain ⟨r31, r32, r33, r34⟩ := r3
    walk_at "rd"
    intro p4 hp4
    have S4 := same_new hp4 (.tup [V.str "fun", V.str (own ++ "r"), v3])
    have m4 : Tm K (nw H _) (.ref p4) (.node (.fn (own ++ "r")) [t3]) := .fn (SqT.of (nw_at (k4.none hs3 hp4))) ((m3.same (nw_in k4b (hs2.same Slf))).same (nw_same S4))
    replace k4 := k4.same S4
    replace hs3 := hs3.same S4
    replace hlX := S4 _ _ hlX
    clear S4 m3 k4b
    generalize upd X3 p4 (HO.tup [V.str "fun", V.str (own ++ "r"), v3]) = X4 at *
    walk_at "rd"
    walk_at "rd"
    intro pa1 hpa1
    have Sa1 := same_new hpa1 (.lst [V.str (own), V.str (own)])
    refine ⟨l, pa1, _, _, rfl, rfl, Sa1 _ _ hlX, upd_same, sz (by simp; omega), fun lg hplg => ?_⟩
    have Slg := Sa1.trans (same_new hplg (.lst (ns.map V.str ++ [V.str (own), V.str (own)])))
    have hlg : upd (upd X4 pa1 (.lst [V.str (own), V.str (own)])) lg (.lst (ns.map V.str ++ [V.str (own), V.str (own)])) lg = some (.lst ((ns ++ [own, own]).map V.str)) := by
      rw [upd_same, List.map_append]
      rfl
    walk_at "rd"
    refine ⟨s, lg, ns ++ [own, own], e, congrArg (fun z => [V.ref s, V.ref lg, V.int z]) (by omega), hs3.same Slg, hlg, (fun x hx => by rcases List.mem_append.mp hx with hx | hx; exact hn x hx; (simp at hx; rw [hx]; exact own1)), by omega, by omega, by simp; omega, fun v5 X5 t5 k5 hs5 m5 r5 => ?_⟩

    have k4b := k4.same Slg
    have k6 := k4b.trans k5
    obtain ⟨r51, r52, r53, r54⟩ := r5
    walk_at "rd"
    intro p6 hp6
    have S6 := same_new hp6 (.tup [V.str "rec", V.str own, V.ref p4, v5])
    have wf4 : Wf (.node (.fn (own ++ "r")) [t3]) := .mk ⟨rfl, ownr⟩ trivial (by simp) (fun t ht => by rw [List.mem_singleton.mp ht]; exact r31)
    exact q _ _ (.node (.rc own) [.node (.fn (own ++ "r")) [t3], t5]) (k6.same S6) (hs5.same S6) (.rc (SqT.of (nw_at (k6.none hs5 hp6))) (((m4.same (nw_same Slg)).same (nw_keep k5 hs)).same (nw_same S6)) ((m5.same (nw_in k4b (hs3.same Slg))).same (nw_same S6)))
      ⟨.mk ⟨rfl, own1⟩ trivial (by simp) (fun t ht => by simp at ht; rcases ht with rfl | rfl <;> assumption), by simp only [T.size, T.sizes]; omega, by simp only [T.deep, T.deeps]; omega, sc2 (fun n => nofun) (sc1 (fun n => nofun) (r34.mono (subs3 own _))) (r54.mono (subs2 own))⟩
  walk_at "rd"
  refine ite2 (fun c4 => ?_) (fun c4 => ?_)
  · walk_at "rd"
    refine ⟨s, l, ns, e, congrArg (fun z => [V.ref s, V.ref l, V.int z]) (by omega), hs2, hlX, hn, by omega, by omega, by omega, fun v3 X3 t3 k3 hs3 m3 r3 => ?_⟩

    have k4 := kX.trans k3
    have hl3 := k3.list hs2 (no3_strs ns) hlX
    obtain ⟨r31, r32, r33, r34⟩ := r3
    walk_at "rd"
    refine ⟨s, l, ns, rfl, hs3, SqL.of hl3, hn, by omega, fun v5 X5 t5 k5 hs5 m5 r5 => ?_⟩
    have k6 := k4.trans k5
    obtain ⟨r51, r52, r53, r54⟩ := r5
    simp only [szOf] at r52
    walk_at "rd"
    refine ⟨_, _, rfl, ?_⟩
    have m3b := (m3.same (nw_in kX hs2)).same (nw_keep k5 hs)
    have m5b := m5.same (nw_in k4 hs3)
    clear m3 m5 k5 k3 hl3 hlX k4 hs3
    walk_at "rd"
    intro p6 hp6
    have S6 := same_new hp6 (.tup [V.str "bool", V.bl true])
    have mb6 : Tm K (nw H (upd X5 p6 (.tup [V.str "bool", V.bl true]))) (.ref p6) (.node (.bool true) []) := .bool (SqT.of (nw_at (k6.none hs5 hp6)))
    have m36 := m3b.same (nw_same S6)
    have m56 := m5b.same (nw_same S6)
    have k7 := k6.same S6
    have hs7 := hs5.same S6
    clear S6 m3b m5b k6 hs5
    generalize upd X5 p6 (HO.tup [V.str "bool", V.bl true]) = X6 at *
    walk_at "rd"
    intro p8 hp8
    have S8 := same_new hp8 (.lst [V.ref p6, v5])
    refine ⟨s, p8, _, rfl, hs7.same S8, SqL.of upd_same, No3.of_ref fun v hv j z => ?_, by simp, by simp, fun v9 X9 hv9 k9 hs9 => ?_⟩
    · simp at hv
      rcases hv with rfl | rfl
      · exact mb6.ne_int j z
      · exact m56.ne_int j z
    have kA := (k7.same S8).trans k9
    obtain ⟨t9, m9, w9, z9, d9, c9⟩ : ∃ t, Tm K (nw H X9) v9 t ∧ Wf t ∧ t.size ≤ 1 ∧ t.deep ≤ 1 ∧ Sc ns t := by
      simp at hv9
      rcases hv9 with rfl | rfl
      · exact ⟨_, (mb6.same (nw_same S8)).same (nw_keep k9 hs), .mk rfl trivial (by simp) (fun t ht => by cases ht), by simp [T.size, T.sizes], by simp [T.deep, T.deeps], sc0 fun n => nofun⟩
      · exact ⟨_, (m56.same (nw_same S8)).same (nw_keep k9 hs), r51, by omega, by omega, r54⟩
    have m39 := (m36.same (nw_same S8)).same (nw_keep k9 hs)
    have m59 := (m56.same (nw_same S8)).same (nw_keep k9 hs)
    clear S8 k7 hs7 m36 m56 mb6 k9
    walk_at "rd"
    intro pB hpB
    have SB := same_new hpB (.lst [v3, v5])
    refine ⟨s, pB, _, rfl, hs9.same SB, SqL.of upd_same, No3.of_ref fun v hv j z => ?_, by simp, by simp, fun vC XC hvC kC hsC => ?_⟩
    · simp at hv
      rcases hv with rfl | rfl
      · exact m39.ne_int j z
      · exact m59.ne_int j z
    have kD := (kA.same SB).trans kC
    obtain ⟨tC, mC, wC, zC, dC, cC⟩ : ∃ t, Tm K (nw H XC) vC t ∧ Wf t ∧ t.size ≤ szOf e ∧ t.deep ≤ 2 * e + 1 ∧ Sc ns t := by
      simp at hvC
      rcases hvC with rfl | rfl
      · exact ⟨_, (m39.same (nw_same SB)).same (nw_keep kC hs), r31, r32, r33, r34⟩
      · exact ⟨_, (m59.same (nw_same SB)).same (nw_keep kC hs), r51, by omega, by omega, r54⟩
    have m9D := (m9.same (nw_same SB)).same (nw_keep kC hs)
    have m3D := (m39.same (nw_same SB)).same (nw_keep kC hs)
    walk_at "rd"
    intro pE hpE
    have SE := same_new hpE (.tup [V.str "if", v9, v3, vC])
    exact q _ _ (.node .cond [t9, t3, tC]) (kD.same SE) (hsC.same SE) (.cond (SqT.of (nw_at (kD.none hsC hpE))) (m9D.same (nw_same SE)) (m3D.same (nw_same SE)) (mC.same (nw_same SE)))
      ⟨.mk rfl trivial (by simp) (fun t ht => by simp at ht; rcases ht with rfl | rfl | rfl <;> assumption), by simp only [T.size, T.sizes]; omega, by simp only [T.deep, T.deeps]; omega, sc3 (fun n => nofun) c9 r34 cC⟩
  walk_at "rd"
  refine ite2 (fun c5 => ?_) (fun c5 => ?_)
  · walk_at "rd"
    refine ⟨s, _, rfl, hs2, by omega, by omega, fun i5 X5 i50 i51 k5 hs5 => ?_⟩
    have kA := kX.trans k5
    have hl5 := k5.list hs2 (no3_strs ns) hlX
    clear k5 hs2 hlX kX
    walk_at "rd"
    intro D hD
    have nD : H D = none := kA.none hs5 hD
    refine lc_range (lo := 0) (n := (2 + i5).toNat) (fun i X => ∃ (G : Hp) (us : List V) (ts : List T), Same G X ∧ G D = none ∧ Keep s X5 G ∧ Src G s ∧ X D = some (.lst us) ∧ us.length = i ∧ ts.length = i ∧
        (∀ (j : Nat) (u : V) (t : T), us[j]? = some u → ts[j]? = some t → Tm K (nw H G) u t) ∧ ∀ t ∈ ts, Drawn e ns t)
      ⟨X5, [], [], same_new hD _, hD, Keep.refl _ _, hs5, upd_same, rfl, rfl, fun _ _ _ h => by simp at h, fun t h => by cases h⟩ ?_ ?_
    · rintro i X hi ⟨G, us, ts, g1, g2, g3, g4, g5, e2, e3, f2, f3⟩
      walk_at "rd"
      refine ⟨s, l, ns, e, congrArg (fun z => [V.ref s, V.ref l, V.int z]) (by omega), g4.same g1, g1 _ _ (g3.list hs5 (no3_strs ns) hl5), hn, by omega, by omega, by omega, fun v X' t kx hsx tm dr => ?_⟩
      obtain ⟨a1, a2, a3, a4⟩ := grow0 (L := .lst (us ++ [v])) g1 g2 g4 kx hsx
      have b1 : Same (nw H G) (nw H (off D X')) := nw_keep a3 hs
      have hD' : X' D = some (.lst us) := kx.list (g4.same g1) (No3.of_ref fun v hv j z => by
        obtain ⟨c, hc, q⟩ := List.getElem_of_mem hv
        exact (f2 c v (ts[c]'(by omega)) (by rw [List.getElem?_eq_getElem hc, q]) (List.getElem?_eq_getElem (by omega))).ne_int j z) g5
      refine ⟨us, hD', small1000 (by omega), off D X', us ++ [v], ts ++ [t], a1, a2, g3.trans a3, a4, upd_same, by simp [e2], by simp [e3], ?_, ?_⟩
      · intro j u t' h1 h2
        by_cases q : j < i
        · rw [List.getElem?_append_left (by omega)] at h1 h2
          exact (f2 j u t' h1 h2).same b1
        · have hj : j = i := by
            have := (List.getElem?_eq_some_iff.mp h1).1
            simp at this
            omega
          subst hj
          rw [List.getElem?_append_right (by omega)] at h1 h2
          simp [e2, e3] at h1 h2
          rw [← h1, ← h2]
          refine tm.same (fun c o hc => ?_)
          obtain ⟨c1, c2⟩ := nw_get hc
          have c3 : H c = none := ((kA.trans g3).same g1).none (g4.same g1) c1
          rw [nw_of c3, off_ne (fun z => by rw [z, g5] at c1; cases c1)]
          exact c2
      · intro t' ht
        rcases List.mem_append.mp ht with ht | ht
        · exact f3 t' ht
        · rw [List.mem_singleton.mp ht]
          exact dr
    · rintro X ⟨G, us, ts, g1, g2, g3, g4, g5, e2, e3, f2, f3⟩
      have kE := (kA.trans g3).same g1
      have hsE := g4.same g1
      walk_at "rd"
      intro p6 hp6
      have S6 := same_new hp6 (.tup [V.str "tuple", V.ref D])
      have b6 := nw_same (H := H) S6
      have z6 : (T.node .tup ts).size ≤ 1 + 3 * szOf e := node_size (by omega) fun t ht => (f3 t ht).2.1
      have d6 : (T.node .tup ts).deep ≤ 1 + (2 * e + 1) := node_deep fun t ht => (f3 t ht).2.2.1
      exact q _ _ (.node .tup ts) (kE.same S6) (hsE.same S6) (.tup (SqT.of (nw_at (kE.none hsE hp6))) (SqL.of (b6 _ _ ((nw_of nD).trans g5))) (by omega) (fun j u t h1 h2 => ((f2 j u t h1 h2).same (nw_same g1)).same b6))
        ⟨.mk ⟨by omega, by omega⟩ trivial (by omega) fun t ht => (f3 t ht).1, by omega, by omega, scL (fun n => nofun) (fun i => rfl) fun t ht => (f3 t ht).2.2.2⟩
  walk_at "rd"
  refine ite2 (fun c6 => ?_) (fun c6 => ?_)
  · walk_at "rd"
    refine ⟨s, l, ns, e, congrArg (fun z => [V.ref s, V.ref l, V.int z]) (by omega), hs2, hlX, hn, by omega, by omega, by omega, fun v3 X3 t3 k3 hs3 m3 r3 => ?_⟩

    have k4 := kX.trans k3
    have hl3 := k3.list hs2 (no3_strs ns) hlX
    obtain ⟨r31, r32, r33, r34⟩ := r3
    walk_at "rd"
    refine ⟨s, l, ns, rfl, hs3, SqL.of hl3, hn, by omega, fun v5 X5 t5 k5 hs5 m5 r5 => ?_⟩
    have k6 := k4.trans k5
    have hl5 := k5.list hs3 (no3_strs ns) hl3
    obtain ⟨r51, r52, r53, r54⟩ := r5
    simp only [szOf] at r52
    have m3b := (m3.same (nw_in kX hs2)).same (nw_keep k5 hs)
    have m5b := m5.same (nw_in k4 hs3)
    clear m3 m5 k5 k3 hl3 hlX k4 hs3 kX hs2
    walk_at "rd"
    intro p6 hp6
    have S6 := same_new hp6 (.lst [v3, v5])
    have n6 := k6.none hs5 hp6
    walk_at "rd"
    intro p7 hp7
    have S7 := same_new hp7 (.tup [V.str "tuple", V.ref p6])
    have n7 := (k6.same S6).none (hs5.same S6) hp7
    have b67 := nw_same (H := H) (S6.trans S7)
    have mT : Tm K (nw H (upd (upd X5 p6 (.lst [v3, v5])) p7 (.tup [V.str "tuple", V.ref p6]))) (.ref p7) (.node .tup [t3, t5]) := .tup (xs := [v3, v5]) (SqT.of (nw_at n7)) (SqL.of ((nw_same S7) _ _ (nw_at n6))) rfl (fun j u t h1 h2 => by
      match j, h1, h2 with
      | 0, h1, h2 =>
        cases h1
        cases h2
        exact m3b.same b67
      | 1, h1, h2 =>
        cases h1
        cases h2
        exact m5b.same b67
      | n + 2, h1, h2 => simp at h1)
    have wT : Wf (.node .tup [t3, t5]) := .mk ⟨by simp, by simp⟩ trivial (by simp) (fun t ht => by simp at ht; rcases ht with rfl | rfl <;> assumption)
    have zT : (T.node .tup [t3, t5]).size ≤ szOf e + 2 := by
      simp only [T.size, T.sizes]
      omega
    have dT : (T.node .tup [t3, t5]).deep ≤ 2 * e + 2 := by
      simp only [T.deep, T.deeps]
      omega
    have cT : Sc ns (.node .tup [t3, t5]) := sc2 (fun n => nofun) r34 r54
    have k8 := k6.same (S6.trans S7)
    have hs8 := hs5.same (S6.trans S7)
    have hl8 := (S6.trans S7) _ _ hl5
    clear b67 m3b m5b k6 hs5 hl5 S6 S7 n6 n7
    generalize upd (upd X5 p6 (HO.lst [v3, v5])) p7 (HO.tup [V.str "tuple", V.ref p6]) = X7 at *
    walk_at "rd"
    refine ⟨s, _, rfl, hs8, by omega, by omega, fun i9 X9 i90 i91 k9 hs9 => ?_⟩
    have mT9 := mT.same (nw_keep k9 hs)
    have kA := k8.trans k9
    have hl9 := k9.list hs8 (no3_strs ns) hl8
    clear mT k8 hs8 hl8 k9
    walk_at "rd"
    refine ⟨s, l, ns, rfl, hs9, SqL.of hl9, hn, by omega, fun vB XB tB kB hsB mB rB => ?_⟩
    obtain ⟨rB1, rB2, rB3, rB4⟩ := rB
    simp only [szOf] at rB2
    have mTB := mT9.same (nw_keep kB hs)
    have mBB := mB.same (nw_in kA hs9)
    have kC := kA.trans kB
    clear mT9 mB kA kB hs9 hl9
    walk_at "rd"
    intro pD hpD
    have SD := same_new hpD (.lst [V.ref p7, V.ref p7, vB])
    refine ⟨s, pD, _, rfl, hsB.same SD, SqL.of upd_same, No3.of_ref fun v hv j z => ?_, by simp, by simp, fun vE XE hvE kE hsE => ?_⟩
    · simp at hv
      rcases hv with rfl | rfl
      · cases z
      · exact mBB.ne_int j z
    have kF := (kC.same SD).trans kE
    obtain ⟨tE, mE, wE, zE, dE, cE⟩ : ∃ t, Tm K (nw H XE) vE t ∧ Wf t ∧ t.size ≤ szOf e + 2 ∧ t.deep ≤ 2 * e + 2 ∧ Sc ns t := by
      simp at hvE
      rcases hvE with rfl | rfl
      · exact ⟨_, (mTB.same (nw_same SD)).same (nw_keep kE hs), wT, zT, dT, cT⟩
      · exact ⟨_, (mBB.same (nw_same SD)).same (nw_keep kE hs), rB1, by omega, by omega, rB4⟩
    walk_at "rd"
    intro pG hpG
    have SG := same_new hpG (.tup [V.str "part", V.int i9, V.int 2, vE])
    exact q _ _ (.node (.part i9 2) [tE]) (kF.same SG) (hsE.same SG) (.part (SqT.of (nw_at (kF.none hsE hpG))) (mE.same (nw_same SG)))
      ⟨.mk ⟨rfl, by omega, by omega, by omega, by omega⟩ trivial (by simp) (fun t ht => by rw [List.mem_singleton.mp ht]; exact wE), by simp only [T.size, T.sizes]; omega, by simp only [T.deep, T.deeps]; omega, sc1 (fun n => nofun) cE⟩
  walk_at "rd"
  exact ⟨s, l, ns, e, _, rfl, hs2, hlX, hn, by omega, by omega, by omega, fun v3 X3 t3 k3 hs3 m3 r3 => q v3 X3 t3 (kX.trans k3) hs3 (m3.same (nw_in kX hs2)) r3⟩
end
end Vt


set_option Elab.async false
set_option linter.all false
set_option maxRecDepth 100000
set_option maxHeartbeats 4000000

namespace Vt
open PySem PySem.Spec PyProof.Rows L2
theorem Tm.tuple {K : PySem.W.Frag} {H : Hp} {v : V} {t : T} (h : Tm K H v t) : ∃ a xs, v = .ref a ∧ SqT K H a (.str t.hd.word :: xs) := by
  cases h
  all_goals exact ⟨_, _, rfl, by assumption⟩
theorem tyT {K : PySem.W.Frag} {H : Hp} {a : Addr} {xs : List V} (h : SqT K H a xs) : TyX K H (.ref a) (.type "tuple") := by
  rcases h with (h | ⟨o, h⟩) | ⟨o, its, n, h, c, _⟩
  · exact .base (.tup h)
  · exact .fTuple h
  · exact .kTuple h c
theorem tyL {K : PySem.W.Frag} {H : Hp} {a : Addr} {xs : List V} (h : SqL K H a xs) : TyX K H (.ref a) (.type "list") := by
  rcases h with (h | ⟨o, h⟩) | ⟨o, its, n, h, c, _⟩
  · exact .base (.lst h)
  · exact .base (.frz h)
  · exact .kList h c
theorem at0 {x : V} {xs : List V} : atI (x :: xs) 0 = some x := atI_nat (j := 0) rfl
theorem ifT {c : Bool} {A B : Prop} (h : c = true) (a : A) : if c = true then A else B := by
  rw [if_pos h]
  exact a
theorem ifF {c : Bool} {A B : Prop} (h : c = false) (b : B) : if c = true then A else B := by
  rw [h, if_neg Bool.false_ne_true]
  exact b
theorem Tm.ref {K : PySem.W.Frag} {H : Hp} {v : V} {t : T} (h : Tm K H v t) : ∃ a, v = .ref a := by
  obtain ⟨a, _, e, _⟩ := h.tuple
  exact ⟨a, e⟩
theorem nil_kids {K : PySem.W.Frag} {H : Hp} (ks : List T) (e : ks = []) (j : Nat) (u : V) (r : T) (h : ([] : List V)[j]? = some u) (_ : ks[j]? = some r) : Tm K H u r := by simp at h
def Hd.isLeaf : Hd → Bool | .var _ => true | .int _ => true | .bool _ => true | _ => false
def Hd.isTup : Hd → Bool | .tup => true | _ => false
def Hd.isRecord : Hd → Bool | .record _ => true | _ => false
def Hd.isWith : Hd → Bool | .wth _ => true | _ => false
def Hd.isPart : Hd → Bool | .part _ _ => true | _ => false
def Hd.isField : Hd → Bool | .field _ => true | _ => false
theorem w_leaf (h : Hd) : inV (V.str h.word) [V.str "var", V.str "int", V.str "bool"] = h.isLeaf := by cases h <;> kernel_rfl
theorem w_tup (h : Hd) : decide (V.str h.word = V.str "tuple") = h.isTup := by cases h <;> kernel_rfl
theorem w_record (h : Hd) : decide (V.str h.word = V.str "record") = h.isRecord := by cases h <;> kernel_rfl
theorem w_with (h : Hd) : decide (V.str h.word = V.str "with") = h.isWith := by cases h <;> kernel_rfl
theorem w_part (h : Hd) : decide (V.str h.word = V.str "part") = h.isPart := by cases h <;> kernel_rfl
theorem w_field (h : Hd) : decide (V.str h.word = V.str "field") = h.isField := by cases h <;> kernel_rfl
def notStr : V → Bool | .str _ => false | _ => true
/-- the terms directly within a node -/
def spBelow (K : PySem.W.Frag) : Sp := fun vs H Q _ => ∃ (v : V) (t : T) (G0 : Hp), vs = [v] ∧ Same G0 H ∧ Tm K G0 v t ∧ Wt t ∧
  ∀ (p : Addr) (H' : Hp) (us : List V), Same H H' → H p = none → H' p = some (.lst us) → us.length = t.kids.length → (∀ (j : Nat) (u : V) (r : T), us[j]? = some u → t.kids[j]? = some r → Tm K G0 u r) → Q (.ref p) H'
abbrev s_law_below : Stmt := topS 55
abbrev N_law_below : List Str := ["node", "field", "one"]
theorem sc_law_below : FnScope N_law_below ["node"] (defScope s_law_below) := ⟨rfl, rfl, rfl, by decide +kernel, rfl, by decide +kernel, by decide +kernel⟩
section
variable {P : Program} {w : World} {K : PySem.W.Frag} {mg : Str → Option Value} {base : Heap}
theorem ok_below (S : Stands K mg "_law_below" s_law_below ["node"]) (Z : Blt mg) : DefOk P w K mg base CX0 1 "_law_below" ["node"] (spBelow K) := by
  have z_list := Z.list
  have z_str := Z.str
  have z_isinstance := Z.isinstance
  obtain ⟨f, fd, F, hm, hb⟩ := S
  refine ⟨f, fd, ?_, hm, F.kp, hb⟩
  have nd := sc_law_below.nd
  refine F.ok sc_law_below (fun vs H Q E h => ?_) (fun cdv A outer s0 H vs Q E hr h => ?_)
  · obtain ⟨v, t, G0, rfl, _⟩ := h
    rfl
  obtain ⟨v, t, G0, rfl, hG, hT, hW, q⟩ := h
  refine ⟨_, (pss_cons (ps_if (pt_cmpR op_in_seq (pe_ix ix_tup (pv 0) pe_int (fun _ _ => rfl)) (pe_tup (pa_cons pe_str (pa_cons pe_str (pa_cons pe_str pa_nil)))) (by rfl)) (pss_one (ps_ret (pe_lst pa_nil))) pss_nil)
      (pss_cons (ps_if (pt_cmpR op_eq (pe_ix ix_tup (pv 0) pe_int (fun _ _ => rfl)) pe_str (nomark _)) (pss_one (ps_ret (pe_callTy call_list_of (by rfl) z_list (by decide +kernel) (pa_cons (pe_ix ix_tup (pv 0) pe_int (fun _ _ => rfl)) pa_nil)))) pss_nil)
      (pss_cons (ps_if (pt_cmpR op_eq (pe_ix ix_tup (pv 0) pe_int (fun _ _ => rfl)) pe_str (nomark _)) (pss_one (ps_ret (pe_lc (own := [("field", 1)]) (g := gName 1) (tt := tYes) rfl nd (pi_list (pe_ix ix_tup (pv 0) pe_int (fun _ _ => rfl))) (blkOk_by (N := N_law_below) (sc := defScope s_law_below) (by decide +kernel)) (fun _ _ _ _ _ => (pg_name (i := 1) nd rfl (Or.inl rfl))) (fun _ _ _ _ _ => pts_nil) (fun _ _ _ _ _ => (pe_ix (r := rIxT K) ix_tup (pv 1) pe_int (fun _ _ => rfl)))))) pss_nil)
      (pss_cons (ps_if (pt_cmpR op_eq (pe_ix ix_tup (pv 0) pe_int (fun _ _ => rfl)) pe_str (nomark _)) (pss_one (ps_ret (pe_lst (pa_cons (pe_ix ix_tup (pv 0) pe_int (fun _ _ => rfl)) (pa_cons (pe_ix ix_tup (pv 0) pe_int (fun _ _ => rfl)) pa_nil))))) pss_nil)
      (pss_cons (ps_if (pt_cmpR op_eq (pe_ix ix_tup (pv 0) pe_int (fun _ _ => rfl)) pe_str (nomark _)) (pss_one (ps_ret (pe_lst (pa_cons (pe_ix ix_tup (pv 0) pe_int (fun _ _ => rfl)) pa_nil)))) pss_nil)
      (pss_cons (ps_if (pt_cmpR op_eq (pe_ix ix_tup (pv 0) pe_int (fun _ _ => rfl)) pe_str (nomark _)) (pss_one (ps_ret (pe_lst (pa_cons (pe_ix ix_tup (pv 0) pe_int (fun _ _ => rfl)) pa_nil)))) pss_nil)
      (pss_one (ps_ret (pe_lc (own := [("one", 2)]) (g := gName 2) (tt := (tNot (tB (tCB (rIsi K) (tCons (tVar 2) (tCons (tC (.ty "str")) tNil)))))) rfl nd (pi_tup (pe_slice sl_tup (pv 0) (po_some pe_int) po_none)) (blkOk_by (N := N_law_below) (sc := defScope s_law_below) (by decide +kernel)) (fun _ _ _ _ _ => (pg_name (i := 2) nd rfl (Or.inl rfl))) (fun _ _ _ _ _ => pts_one (pt_not (pt_val (pe_callB (r := rIsi K) call_isi (by rfl) z_isinstance (by decide +kernel) (pa_cons (pv 2) (pa_cons (pe_bltn (v := .ty "str") (by rfl) z_str (by decide +kernel) rfl) pa_nil)))))) (fun _ _ _ _ _ => (pv 2))))))))))), ?_⟩
  obtain ⟨a, xs, rfl, hx⟩ := (hT.same hG).tuple
  walk_at "rd"
  refine ⟨a, _, _, _, rfl, rfl, hx, at0, ?_⟩
  walk_at "rd"
  intro p0 hp0
  have S0 := same_new hp0 (.tup [V.str "var", V.str "int", V.str "bool"])
  refine ⟨p0, _, rfl, .inr (SqT.of upd_same), rfl, rfl, _, rfl, ?_⟩
  have hx0 := S0.tupS hx
  have GG := hG.trans S0
  have n0 : ∀ p, upd H p0 (.tup [V.str "var", V.str "int", V.str "bool"]) p = none → H p = none := fun p h => S0.fr h
  generalize upd H p0 (.tup [V.str "var", V.str "int", V.str "bool"]) = H0 at *
  show (if inV (V.str t.hd.word) [V.str "var", V.str "int", V.str "bool"] = true then _ else _)
  rw [w_leaf]
  refine ite2 (fun c => ?_) (fun c => ?_)
  · walk_at "rd"
    intro p hp
    have Sp := same_new hp (.lst [])
    refine q p _ [] (S0.trans Sp) (n0 p hp) upd_same ?_ ?_
    all_goals cases hT
    all_goals first | rfl | (exact absurd c Bool.false_ne_true) | exact nil_kids _ rfl
  walk_at "rd"
  refine ⟨a, _, _, _, rfl, rfl, hx0, at0, ?_⟩
  walk_at "rd"
  show (if decide (V.str t.hd.word = V.str "tuple") = true then _ else _)
  rw [w_tup]
  refine ite2 (fun c1 => ?_) (fun c1 => ?_)
  · cases hT with
    | @tup _ l xs' ts h1 h2 h3 h4 =>
      walk_at "rd"
      refine ⟨a, _, _, _, rfl, rfl, GG.tupS h1, rfl, ?_⟩
      walk_at "rd"
      refine ⟨l, _, rfl, .inl (GG.seq h2), fun p hp => ?_⟩
      have Sp := same_new hp (.lst xs')
      exact q p _ _ (S0.trans Sp) (n0 p hp) upd_same h3 h4
    | _ => exact absurd c1 Bool.false_ne_true
  walk_at "rd"
  refine ⟨a, _, _, _, rfl, rfl, hx0, at0, ?_⟩
  walk_at "rd"
  show (if decide (V.str t.hd.word = V.str "record") = true then _ else _)
  rw [w_record]
  refine ite2 (fun c2 => ?_) (fun c2 => ?_)
  · cases hT with
    | @record _ l bs us ls ts h1 h2 h3 h4 h5 h6 h7 =>
      walk_at "rd"
      refine ⟨a, _, _, _, rfl, rfl, GG.tupS h1, rfl, ?_⟩
      refine ⟨l, rfl, ⟨_, GG.seq h2⟩, fun D hD => ?_⟩
      have hl12 : bs.length ≤ 12 := by have := hW.hd; simp only [okHd] at this; omega
      refine lc_list (K := K) (a := l) (xs := bs.map V.ref) (fun i X => ∃ (G : Hp), Same G X ∧ G D = none ∧ Same H0 G ∧ X D = some (.lst (us.take i)) )
        ⟨H0, same_new hD _, hD, Same.refl _, upd_same⟩ (fun i X hi ⟨G, g1, _, g3, _⟩ => (g3.trans g1).seq (GG.seq h2)) ?_ ?_
      · rintro i x X hx ⟨G, g1, g2, g3, g4⟩
        obtain ⟨b, hb1, hb2, rfl⟩ := get_map hx
        have hi := (List.getElem?_eq_some_iff.mp hb2).1
        have hu : us[i]? = some (us[i]'(by omega)) := List.getElem?_eq_getElem (by omega)
        have hn : ls[i]? = some (ls[i]'(by omega)) := List.getElem?_eq_getElem (by omega)
        have ht := (g3.trans g1).tupS (GG.tupS (h6 i b _ _ hb2 hn hu))
        walk_at "rd"
        refine ⟨_, g4, small1000 (by rw [List.length_take]; omega), G, g1.wr g2, g2, g3, ?_⟩
        rw [upd_same, List.take_add_one, hu]
        rfl
      · rintro X ⟨G, g1, g2, g3, g4⟩
        have SA := (S0.trans g3).trans g1
        rw [List.length_map, List.take_of_length_le (by omega)] at g4
        exact q D X us SA (n0 D hD) g4 h5 h7
    | _ => exact absurd c2 Bool.false_ne_true
  walk_at "rd"
  refine ⟨a, _, _, _, rfl, rfl, hx0, at0, ?_⟩
  walk_at "rd"
  show (if decide (V.str t.hd.word = V.str "with") = true then _ else _)
  rw [w_with]
  refine ite2 (fun c3 => ?_) (fun c3 => ?_)
  · cases hT with
    | @wth _ v t1 n u t2 h1 h2 h3 =>
      walk_at "rd"
      refine ⟨a, _, _, _, rfl, rfl, GG.tupS h1, rfl, ?_⟩
      walk_at "rd"
      refine ⟨a, _, _, _, rfl, rfl, GG.tupS h1, rfl, ?_⟩
      walk_at "rd"
      intro p hp
      have Sp := S0.trans (same_new hp (.lst [v, u]))
      exact q p _ [v, u] Sp (n0 p hp) upd_same rfl fun j z r a1 a2 => by
        match j, a1, a2 with
        | 0, a1, a2 => cases a1; cases a2; exact h2
        | 1, a1, a2 => cases a1; cases a2; exact h3
        | n + 2, a1, _ => simp at a1
    | _ => exact absurd c3 Bool.false_ne_true
  walk_at "rd"
  refine ⟨a, _, _, _, rfl, rfl, hx0, at0, ?_⟩
  walk_at "rd"
  show (if decide (V.str t.hd.word = V.str "part") = true then _ else _)
  rw [w_part]
  refine ite2 (fun c4 => ?_) (fun c4 => ?_)
  · cases hT with
    | @part _ k z v t1 h1 h2 =>
      walk_at "rd"
      refine ⟨a, _, _, _, rfl, rfl, GG.tupS h1, rfl, ?_⟩
      walk_at "rd"
      intro p hp
      have Sp := S0.trans (same_new hp (.lst [v]))
      exact q p _ [v] Sp (n0 p hp) upd_same rfl fun j z r a1 a2 => by
        match j, a1, a2 with
        | 0, a1, a2 => cases a1; cases a2; exact h2
        | n + 1, a1, _ => simp at a1
    | _ => exact absurd c4 Bool.false_ne_true
  walk_at "rd"
  refine ⟨a, _, _, _, rfl, rfl, hx0, at0, ?_⟩
  walk_at "rd"
  show (if decide (V.str t.hd.word = V.str "field") = true then _ else _)
  rw [w_field]
  refine ite2 (fun c5 => ?_) (fun c5 => ?_)
  · cases hT with
    | @field _ v t1 n h1 h2 =>
      walk_at "rd"
      refine ⟨a, _, _, _, rfl, rfl, GG.tupS h1, rfl, ?_⟩
      walk_at "rd"
      intro p hp
      have Sp := S0.trans (same_new hp (.lst [v]))
      exact q p _ [v] Sp (n0 p hp) upd_same rfl fun j z r a1 a2 => by
        match j, a1, a2 with
        | 0, a1, a2 => cases a1; cases a2; exact h2
        | n + 1, a1, _ => simp at a1
    | _ => exact absurd c5 Bool.false_ne_true
  walk_at "rd"
  -- the words with a slice: what is no text stays
  have rest : ∃ ys us : List V, SqT K G0 a (.str t.hd.word :: ys) ∧ ys.length ≤ 3 ∧ ys ≠ [] ∧ us = ys.filter notStr ∧ us.length = t.kids.length ∧ (∀ y ∈ ys, (∃ z, y = .str z) ∨ ∃ r, Tm K G0 y r) ∧ (∀ (j : Nat) (u : V) (r : T), us[j]? = some u → t.kids[j]? = some r → Tm K G0 u r) := by
    cases hT with
    | @fn _ n v t1 h1 h2 =>
      obtain ⟨b, rfl⟩ := h2.ref
      refine ⟨_, [.ref b], h1, by simp, by simp, rfl, rfl, fun y hy => ?_, fun j u r a1 a2 => ?_⟩
      · simp at hy
        rcases hy with rfl | rfl
        · exact .inl ⟨_, rfl⟩
        · exact .inr ⟨_, h2⟩
      · match j, a1, a2 with
        | 0, a1, a2 => cases a1; cases a2; exact h2
        | n + 1, a1, _ => simp at a1
    | @app _ v t1 u t2 h1 h2 h3 =>
      obtain ⟨b, rfl⟩ := h2.ref
      obtain ⟨b2, rfl⟩ := h3.ref
      refine ⟨_, [.ref b, .ref b2], h1, by simp, by simp, rfl, rfl, fun y hy => ?_, fun j u r a1 a2 => ?_⟩
      · simp at hy
        rcases hy with rfl | rfl
        · exact .inr ⟨_, h2⟩
        · exact .inr ⟨_, h3⟩
      · match j, a1, a2 with
        | 0, a1, a2 => cases a1; cases a2; exact h2
        | 1, a1, a2 => cases a1; cases a2; exact h3
        | n + 2, a1, _ => simp at a1
    | @lt _ n v t1 u t2 h1 h2 h3 =>
      obtain ⟨b, rfl⟩ := h2.ref
      obtain ⟨b2, rfl⟩ := h3.ref
      refine ⟨_, [.ref b, .ref b2], h1, by simp, by simp, rfl, rfl, fun y hy => ?_, fun j u r a1 a2 => ?_⟩
      · simp at hy
        rcases hy with rfl | rfl | rfl
        · exact .inl ⟨_, rfl⟩
        · exact .inr ⟨_, h2⟩
        · exact .inr ⟨_, h3⟩
      · match j, a1, a2 with
        | 0, a1, a2 => cases a1; cases a2; exact h2
        | 1, a1, a2 => cases a1; cases a2; exact h3
        | n + 2, a1, _ => simp at a1
    | @rc _ n v t1 u t2 h1 h2 h3 =>
      obtain ⟨b, rfl⟩ := h2.ref
      obtain ⟨b2, rfl⟩ := h3.ref
      refine ⟨_, [.ref b, .ref b2], h1, by simp, by simp, rfl, rfl, fun y hy => ?_, fun j u r a1 a2 => ?_⟩
      · simp at hy
        rcases hy with rfl | rfl | rfl
        · exact .inl ⟨_, rfl⟩
        · exact .inr ⟨_, h2⟩
        · exact .inr ⟨_, h3⟩
      · match j, a1, a2 with
        | 0, a1, a2 => cases a1; cases a2; exact h2
        | 1, a1, a2 => cases a1; cases a2; exact h3
        | n + 2, a1, _ => simp at a1
    | @cond _ v t1 u t2 z t3 h1 h2 h3 h4 =>
      obtain ⟨b, rfl⟩ := h2.ref
      obtain ⟨b2, rfl⟩ := h3.ref
      obtain ⟨b3, rfl⟩ := h4.ref
      refine ⟨_, [.ref b, .ref b2, .ref b3], h1, by simp, by simp, rfl, rfl, fun y hy => ?_, fun j u r a1 a2 => ?_⟩
      · simp at hy
        rcases hy with rfl | rfl | rfl
        · exact .inr ⟨_, h2⟩
        · exact .inr ⟨_, h3⟩
        · exact .inr ⟨_, h4⟩
      · match j, a1, a2 with
        | 0, a1, a2 => cases a1; cases a2; exact h2
        | 1, a1, a2 => cases a1; cases a2; exact h3
        | 2, a1, a2 => cases a1; cases a2; exact h4
        | n + 3, a1, _ => simp at a1
    | var _ => exact absurd rfl c
    | int _ => exact absurd rfl c
    | bool _ => exact absurd rfl c
    | tup _ _ _ _ => exact absurd rfl c1
    | record _ _ _ _ _ _ _ => exact absurd rfl c2
    | wth _ _ _ => exact absurd rfl c3
    | part _ _ => exact absurd rfl c4
    | field _ _ => exact absurd rfl c5
  obtain ⟨ys, us, k1, k2, k3, k4, k5, k6, k7⟩ := rest
  have ec : cutV (V.str t.hd.word :: ys) (some 1) none = ys := by
    unfold cutV
    have e1 : HT.sIx (V.str t.hd.word :: ys).length 0 (some 1) = 1 := by
      show min 1 _ = 1
      rw [List.length_cons]
      omega
    have e2 : HT.sIx (V.str t.hd.word :: ys).length (V.str t.hd.word :: ys).length none = (V.str t.hd.word :: ys).length := rfl
    rw [e1, e2]
    show ys.take (ys.length + 1 - 1) = ys
    exact List.take_of_length_le (by omega)
  refine ⟨a, _, rfl, GG.tupS k1, fun z => ?_, fun p hp => ?_⟩
  · have e1 : HT.sIx (V.str t.hd.word :: ys).length 0 (some 1) = 1 := by
      show min 1 _ = 1
      rw [List.length_cons]
      omega
    rw [e1] at z
    exact absurd z.1 (by decide)
  rw [ec]
  have Sp := same_new hp (.tup ys)
  have hp1 := @upd_same H0 p (.tup ys)
  have n1 : ∀ c, upd H0 p (.tup ys) c = none → H c = none := fun c h => n0 c (Sp.fr h)
  have SB := S0.trans Sp
  have GB := hG.trans SB
  clear Sp ec hp
  generalize upd H0 p (.tup ys) = H1 at *
  refine ⟨p, rfl, ⟨_, SqT.of hp1⟩, fun D hD => ?_⟩
  refine lc_tup (K := K) (a := p) (xs := ys) (fun i X => ∃ (G : Hp), Same G X ∧ G D = none ∧ Same H1 G ∧ X D = some (.lst ((ys.take i).filter notStr)))
    ⟨H1, same_new hD _, hD, Same.refl _, upd_same⟩ (fun i X hi ⟨G, g1, _, g3, _⟩ => (g3.trans g1).tupS (SqT.of hp1)) ?_ ?_
  · rintro i x X hx ⟨G, g1, g2, g3, g4⟩
    have hi := (List.getElem?_eq_some_iff.mp hx).1
    have et : ys.take (i + 1) = ys.take i ++ [x] := by
      rw [List.take_add_one, hx]
      rfl
    walk_at "rd"
    rcases k6 x (List.mem_of_getElem? hx) with ⟨z, rfl⟩ | ⟨r, hr⟩
    · refine ⟨_, .ty "str", _, _, true, rfl, .ty "str", .base (.str z), kit_ty (by decide +kernel), _, rfl, ?_⟩
      refine ifF rfl ⟨G, g1, g2, g3, ?_⟩
      rw [g4, et, List.filter_append]
      show _ = some (HO.lst (_ ++ []))
      rw [List.append_nil]
    · obtain ⟨b, xs2, rfl, hb⟩ := hr.tuple
      refine ⟨_, .ty "str", _, _, false, rfl, .ty "str", tyT ((GB.trans (g3.trans g1)).tupS hb), kit_ty (by decide +kernel), _, rfl, ?_⟩
      refine ifT rfl ?_
      walk_at "rd"
      refine ⟨_, g4, small1000 (Nat.le_trans (List.length_filter_le _ _) (by rw [List.length_take]; omega)), G, g1.wr g2, g2, g3, ?_⟩
      rw [upd_same, et, List.filter_append]
      rfl
  · rintro X ⟨G, g1, g2, g3, g4⟩
    have SA := SB.trans (g3.trans g1)
    rw [List.take_length, ← k4] at g4
    exact q D X us SA (n1 D hD) g4 k5 k7
end
end Vt


set_option Elab.async false
set_option linter.all false
set_option maxRecDepth 100000
set_option maxHeartbeats 4000000

namespace Vt
open PySem PySem.Spec PyProof.Rows L2
mutual
/-- the nodes of a term with their paths, in the order in which they begin -/
def T.rows : T → List Nat → List (List Nat × T)
  | .node h ks, p => (p, .node h ks) :: T.rowsL ks p 0
def T.rowsL : List T → List Nat → Nat → List (List Nat × T)
  | [], _, _ => []
  | t :: r, p, i => t.rows (p ++ [i]) ++ T.rowsL r p (i + 1)
end
mutual
theorem rows_len : ∀ (t : T) (p : List Nat), (t.rows p).length = t.size
  | .node h ks, p => by
    simp only [T.rows, T.size, List.length_cons, rowsL_len ks p 0]
    omega
theorem rowsL_len : ∀ (ks : List T) (p : List Nat) (i : Nat), (T.rowsL ks p i).length = T.sizes ks
  | [], _, _ => rfl
  | t :: r, p, i => by simp only [T.rowsL, T.sizes, List.length_append, rows_len t, rowsL_len r]
end
theorem rowsL_snoc (p : List Nat) (r : T) : ∀ (ks : List T) (i : Nat), T.rowsL (ks ++ [r]) p i = T.rowsL ks p i ++ r.rows (p ++ [i + ks.length])
  | [], i => by simp [T.rowsL]
  | t :: ks, i => by
    have e : i + 1 + ks.length = i + (ks.length + 1) := by omega
    simp only [List.cons_append, T.rowsL, rowsL_snoc p r ks (i + 1), List.append_assoc, List.length_cons, e]
theorem sizes_take : ∀ (ks : List T) (i : Nat), T.sizes (ks.take i) ≤ T.sizes ks
  | [], i => by simp
  | t :: r, 0 => by simp [T.sizes]
  | t :: r, i + 1 => by
    have := sizes_take r i
    simp only [List.take_succ_cons, T.sizes]
    omega
theorem deep_kid {ks : List T} {t : T} (h : t ∈ ks) : t.deep ≤ T.deeps ks := by
  induction ks with
  | nil => cases h
  | cons u r ih =>
    simp only [T.deeps]
    rcases List.mem_cons.mp h with rfl | h
    · omega
    · have := ih h
      omega
theorem size_kid {ks : List T} {t : T} (h : t ∈ ks) : t.size ≤ T.sizes ks := by
  induction ks with
  | nil => cases h
  | cons u r ih =>
    simp only [T.sizes]
    rcases List.mem_cons.mp h with rfl | h
    · omega
    · have := ih h
      omega
def nums (p : List Nat) : List V := p.map fun (n : Nat) => V.int (n : Int)
theorem nums_snoc (p : List Nat) (i : Nat) : nums (p ++ [i]) = nums p ++ [V.int (i : Int)] := by unfold nums; rw [List.map_append]; rfl
/-- a row of paths: a tuple of a path and a node; G: where the term stands -/
def Row (K : PySem.W.Frag) (G H : Hp) (v : V) (r : List Nat × T) : Prop := ∃ (b pa : Addr) (u : V), v = .ref b ∧ SqT K H b [.ref pa, u] ∧ SqT K H pa (nums r.1) ∧ Tm K G u r.2
theorem Row.same {K : PySem.W.Frag} {G H H' : Hp} {v : V} {r : List Nat × T} (h : Row K G H v r) (s : Same H H') : Row K G H' v r := by
  obtain ⟨b, pa, u, e, h1, h2, h3⟩ := h
  exact ⟨b, pa, u, e, s.tupS h1, s.tupS h2, h3⟩
theorem Row.off {K : PySem.W.Frag} {G H : Hp} {v : V} {r : List Nat × T} {D : Addr} {zs : List V} (h : Row K G H v r) (hD : H D = some (.lst zs)) : Row K G (off D H) v r := by
  obtain ⟨b, pa, u, e, h1, h2, h3⟩ := h
  exact ⟨b, pa, u, e, tup_off h1 hD, tup_off h2 hD, h3⟩
theorem Al.app {α β : Type} {R : α → β → Prop} {xs xs' : List α} {ys ys' : List β} (h : Al R xs ys) (k : Al R xs' ys') : Al R (xs ++ xs') (ys ++ ys') := by
  obtain ⟨l, f⟩ := h
  obtain ⟨l', f'⟩ := k
  refine ⟨by simp [l, l'], fun i u v hu hv => ?_⟩
  by_cases q : i < xs.length
  · rw [List.getElem?_append_left q] at hu
    rw [List.getElem?_append_left (by omega)] at hv
    exact f i u v hu hv
  · rw [List.getElem?_append_right (by omega)] at hu
    rw [List.getElem?_append_right (by omega)] at hv
    rw [← l] at hv
    exact f' _ u v hu hv
/-- the nodes of a term with their paths -/
def spAll (K : PySem.W.Frag) (n : Nat) : Sp := fun vs H Q _ => ∃ (v : V) (t : T) (G0 : Hp) (pa : Addr) (p : List Nat), vs = [v, .ref pa] ∧ Same G0 H ∧ Tm K G0 v t ∧ Wt t ∧ t.size ≤ 400 ∧ t.deep ≤ n ∧ SqT K H pa (nums p) ∧ p.length + t.deep ≤ 100 ∧
  ∀ (r : Addr) (H' : Hp) (ws : List V), Same H H' → H r = none → H' r = some (.lst ws) → Al (Row K G0 H') ws (t.rows p) → Q (.ref r) H'
abbrev s_law_all : Stmt := topS 58
abbrev N_law_all : List Str := ["node", "path_here", "found", "at", "one"]
theorem sc_law_all : FnScope N_law_all ["node", "path_here"] (defScope s_law_all) := ⟨rfl, rfl, rfl, by decide +kernel, rfl, by decide +kernel, by decide +kernel⟩
section
variable {P : Program} {w : World} {K : PySem.W.Frag} {mg : Str → Option Value} {base : Heap}
theorem ok_all {n : Nat} (S : Stands K mg "_law_all" s_law_all ["node", "path_here"]) (Z : Blt mg) (H_law_below : DefOk P w K mg base CX0 1 "_law_below" ["node"] (spBelow K)) (H_law_all : DefOk P w K mg base CX0 (n + 2) "_law_all" ["node", "path_here"] (spAll K n)) :
    DefOk P w K mg base CX0 (n + 3) "_law_all" ["node", "path_here"] (spAll K (n + 1)) := by
  have z_enumerate := Z.enumerate
  obtain ⟨f, fd, F, hm, hb⟩ := S
  obtain ⟨f_law_below, fd_law_below, G_law_below, m_law_below, k_law_below, b_law_below⟩ := H_law_below
  obtain ⟨f_law_all, fd_law_all, G_law_all, m_law_all, k_law_all, b_law_all⟩ := H_law_all
  refine ⟨f, fd, ?_, hm, F.kp, hb⟩
  have nd := sc_law_all.nd
  refine F.ok sc_law_all (fun vs H Q E h => ?_) (fun cdv A outer s0 H vs Q E hr h => ?_)
  · obtain ⟨v, t, G0, pa, p, rfl, _⟩ := h
    rfl
  obtain ⟨v, t, G0, pa, p, rfl, hG, hT, hW, hsz, hdp, hpa, hpl, q⟩ := h
  refine ⟨_, (pss_cons (ps_set (i := 2) nd rfl (Or.inl rfl) (pe_lst (pa_cons (pe_tup (pa_cons (pv 1) (pa_cons (pv 0) pa_nil))) pa_nil)))
      (pss_cons (ps_for PassesOwn.never rfl (pi_enum (by rfl) z_enumerate (pa_cons (pe_call G_law_below (hr.mono (by omega)) rfl m_law_below k_law_below b_law_below .nil pass0 (pa_cons (pv 0) pa_nil)) pa_nil)) (pg_tup rfl (pgs_cons (pg_name (i := 3) nd rfl (Or.inl rfl)) (pgs_cons (pg_name (i := 4) nd rfl (Or.inl rfl)) pgs_nil))) (pss_one (ps_expr (pe_bm PySem.F.plainAttrs_list PySem.F.slot_list_extend PySem.F.type_list_extend mt_extend (pv 2) (pa_cons (pe_call G_law_all (hr.mono (by omega)) rfl m_law_all k_law_all b_law_all .nil pass0 (pa_cons (pv 4) (pa_cons (pe_op op_catA (pv 1) (pe_tup (pa_cons (pv 3) pa_nil))) pa_nil))) pa_nil)))))
      (pss_one (ps_ret (pv 2))))), ?_⟩
  walk_at "rd"
  intro p1 hp1
  have S1 := same_new hp1 (.tup [V.ref pa, v])
  have R1 : Row K G0 (upd H p1 (.tup [V.ref pa, v])) (.ref p1) (p, t) := ⟨p1, pa, v, rfl, SqT.of upd_same, S1.tupS hpa, hT⟩
  have n1 : ∀ c, upd H p1 (.tup [V.ref pa, v]) c = none → H c = none := fun c h => S1.fr h
  have G1 := hG.trans S1
  clear hp1
  generalize upd H p1 (.tup [V.ref pa, v]) = H1 at *
  walk_at "rd"
  intro D hD
  have S2 := same_new hD (.lst [V.ref p1])
  have hD2 := @upd_same H1 D (.lst [V.ref p1])
  have fD : ∀ c o, H1 c = some o → upd H1 D (.lst [V.ref p1]) c = some o := fun c o h => S2 c o h
  have G2 := G1.trans S2
  have e1 : off D (upd H1 D (.lst [V.ref p1])) = off D H1 := by
    funext c
    by_cases z : c = D
    · rw [z, off_at, off_at]
    · rw [off_ne z, off_ne z, upd_ne z]
  have o1 : Same H1 (off D H1) := (Same.refl H1).off hD
  clear S2
  generalize upd H1 D (.lst [V.ref p1]) = H2 at *
  walk_at "rd"
  refine ⟨v, t, G0, rfl, G2, hT, hW, fun pb H3 us S3 nb hb lb kb => ?_⟩
  have nbD : pb ≠ D := (ne_of_none hD2 nb).symm
  walk_at "rd"
  have kl : t.kids.length ≤ 12 := by
    cases t
    exact hW.few
  have G3 := G2.trans S3
  have B1 : Same H1 (off D H3) := fun c o h => by rw [off_ne (ne_of_none h hD)]; exact S3 c o (fD c o h)
  refine ⟨pb, us, rfl, SqL.of hb, ?_⟩
  refine for_it (walk_enum (K := K) (a := pb) (xs := us)) (fun i σ X => ∃ (G : Hp) (ws : List V) (s1 s2 : Option V), σ = [some v, some (.ref pa), some (.ref D), s1, s2] ∧ Same G X ∧ G D = none ∧ Same (off D H3) G ∧ X D = some (.lst ws) ∧ Al (Row K G0 G) ws ((p, t) :: T.rowsL (t.kids.take i) p 0))
    ⟨off D H3, [.ref p1], none, none, rfl, off_same, off_at, Same.refl _, S3 _ _ hD2, ?_⟩ (fun i σ X hi ⟨G, ws, s1, s2, _, g1, _, g3, _⟩ => SqL.of (g1 _ _ (g3 _ _ (by rw [off_ne nbD]; exact hb)))) ?_ ?_
  · exact Al.snoc Al.nil (R1.same B1)
  · rintro i x σ X X' hi ⟨G, ws, s1, s2, rfl, g1, g2, g3, g4, g5⟩ ⟨T0, y, z, rfl, hT0, rfl, hy, hz⟩
    cases hy
    have ST := same_new hT0 (.tup [V.int (i : Int), z])
    have hkid : t.kids[i]? = some (t.kids[i]'(by omega)) := List.getElem?_eq_getElem (by omega)
    have hmem : t.kids[i]'(by omega) ∈ t.kids := List.getElem_mem _
    have mz := kb i z _ hz hkid
    have wz : Wt (t.kids[i]'(by omega)) := by
      cases t
      exact hW.kid hmem
    have sz1 : (t.kids[i]'(by omega)).size ≤ 400 := by
      have := size_kid hmem
      cases t
      simp only [T.size] at hsz
      simp only [T.kids] at this ⊢
      omega
    have dz : (t.kids[i]'(by omega)).deep + 1 ≤ t.deep := by
      have := deep_kid hmem
      cases t
      simp only [T.deep]
      simp only [T.kids] at this ⊢
      omega
    generalize t.kids[i]'(by omega) = kid at *
    refine ⟨T0, _, rfl, SqT.of upd_same, rfl, ?_⟩
    refine ⟨_, _, rfl, ⟨_, _, rfl, rfl, ?_⟩⟩
    walk_at "rd"
    refine ⟨.inl ⟨rfl, _, SqL.of (ST _ _ g4)⟩, ?_⟩
    walk_at "rd"
    intro T1 hT1
    have ST1 := same_new hT1 (.tup [V.int (i : Int)])
    have SH : Same H1 X := B1.trans (g3.trans g1)
    have S12 := (SH.trans ST).trans ST1
    have wl : ws.length ≤ 400 := by
      have e := g5.1
      have := sizes_take t.kids i
      rw [List.length_cons, rowsL_len] at e
      cases t
      simp only [T.size] at hsz
      simp only [T.kids] at this e
      omega
    refine catA_of (xs := nums p) (S12.tupS (S1.tupS hpa)) (SqT.of upd_same) (sz (by simp [nums]; omega)) fun pp X2 S4 hpp => ?_
    walk_at "rd"
    refine ⟨z, kid, G0, pp, p ++ [i], rfl, (G1.trans S12).trans S4, mz, wz, sz1, by omega, by rw [nums_snoc]; exact hpp, by simp; omega, fun rr X3 zs S5 n5 h5 al5 => ?_⟩
    have SX3 : Same X X3 := ((ST.trans ST1).trans S4).trans S5
    have hD3 := SX3 _ _ g4
    have zl : zs.length ≤ 400 := by
      rw [al5.1, rows_len]
      exact sz1
    walk_at "rd"
    refine ⟨D, rr, ws, zs, rfl, rfl, hD3, h5, sz (by omega), ?_⟩
    refine ⟨off D X3, ws ++ zs, _, _, rfl, off_same.wr off_at, off_at, g3.trans ((g1.trans SX3).off g2), upd_same, ?_⟩
    have e2 : t.kids.take (i + 1) = t.kids.take i ++ [kid] := by
      rw [List.take_add_one, hkid]
      rfl
    have e3 : (t.kids.take i).length = i := by
      rw [List.length_take]
      omega
    rw [e2, rowsL_snoc, e3, Nat.zero_add, ← List.cons_append]
    exact Al.app ⟨g5.1, fun j a b c d => (g5.2 j a b c d).same ((g1.trans SX3).off g2)⟩ ⟨al5.1, fun j a b c d => (al5.2 j a b c d).off hD3⟩
  · rintro σ X ⟨G, ws, s1, s2, rfl, g1, g2, g3, g4, g5⟩
    rw [lb, List.take_length] at g5
    walk_at "rd"
    have SX : Same H1 X := B1.trans (g3.trans g1)
    refine q D X ws (S1.trans SX) (n1 D hD) g4 ?_
    cases t
    exact ⟨g5.1, fun j a b c d => (g5.2 j a b c d).same g1⟩
end
end Vt


set_option Elab.async false
set_option linter.all false
set_option maxRecDepth 100000
set_option maxHeartbeats 4000000

namespace Vt
open PySem PySem.Spec PyProof.Rows L2
/-- how many nodes a broad term may have -/
def wsz : Nat → Nat
  | 0 => 1
  | d + 1 => 13 * wsz d + 2
theorem wsz_pos : ∀ d, 1 ≤ wsz d
  | 0 => Nat.le_refl _
  | d + 1 => by simp only [wsz]; omega
def Broad (d : Nat) (t : T) : Prop := Wt t ∧ t.size ≤ wsz d ∧ t.deep ≤ 2 * d + 1
theorem broad0 {h : Hd} (a : okHd h 0) (b : okRec h []) : Broad 0 (.node h []) := ⟨.mk a b (fun t m => by cases m), by simp [T.size, T.sizes, wsz], by simp [T.deep, T.deeps]⟩
/-- the labels: the last ones of a row of twelve -/
def lab12 : List Str := ["a", "aa", "b", "bcd", "c", "count", "d", "e", "function", "g", "index", "z"]
theorem lab12_ok : (∀ n ∈ lab12, isName n) ∧ lab12.Pairwise strLt := ⟨by decide +kernel, by unfold strLt; decide +kernel⟩
theorem labels12 {i : Int} (h0 : 0 ≤ i) (h1 : i < 12) : ∃ ls : List Str, cutV (lab12.map V.str) (some i) none = ls.map V.str ∧ 1 ≤ ls.length ∧ ls.length ≤ 12 ∧ (∀ n ∈ ls, isName n) ∧ ls.Pairwise strLt := by
  obtain ⟨j, rfl⟩ := Int.eq_ofNat_of_zero_le h0
  have hj : j < 12 := by omega
  have l12 : lab12.length = 12 := rfl
  refine ⟨lab12.drop j, ?_, by rw [List.length_drop, l12]; omega, by rw [List.length_drop, l12]; omega, fun n hn => lab12_ok.1 n (List.mem_of_mem_drop hn), lab12_ok.2.sublist (List.drop_sublist _ _)⟩
  rcases (by omega : j = 0 ∨ j = 1 ∨ j = 2 ∨ j = 3 ∨ j = 4 ∨ j = 5 ∨ j = 6 ∨ j = 7 ∨ j = 8 ∨ j = 9 ∨ j = 10 ∨ j = 11) with rfl | rfl | rfl | rfl | rfl | rfl | rfl | rfl | rfl | rfl | rfl | rfl <;> rfl
def spWide (K : PySem.W.Frag) (n : Nat) : Sp := fun vs H Q _ => ∃ (s : Addr) (d : Nat), vs = [.ref s, .int (d : Nat)] ∧ Src H s ∧ d < n ∧ d ≤ 7 ∧
  ∀ (v : V) (H' : Hp) (t : T), Keep s H H' → Src H' s → Tm K (nw H H') v t → Broad d t → Q v H'
abbrev s_law_wide : Stmt := topS 56
abbrev N_law_wide : List Str := ["source", "deep", "way", "size", "labels", "fields", "k", "label"]
theorem sc_law_wide : FnScope N_law_wide ["source", "deep"] (defScope s_law_wide) := ⟨rfl, rfl, rfl, by decide +kernel, rfl, by decide +kernel, by decide +kernel⟩
section
variable {P : Program} {w : World} {K : PySem.W.Frag} {mg : Str → Option Value} {base : Heap}
theorem ok_wide {n : Nat} (S : Stands K mg "_law_wide" s_law_wide ["source", "deep"]) (Z : Blt mg) (H_law_next : DefOk P w K mg base CX0 1 "_law_next" ["source", "many"] spNext) (H_law_one : DefOk P w K mg base CX0 2 "_law_one" ["source", "some"] (spOne K))
    (H_law_wide : DefOk P w K mg base CX0 (n + 3) "_law_wide" ["source", "deep"] (spWide K n)) : DefOk P w K mg base CX0 (n + 4) "_law_wide" ["source", "deep"] (spWide K (n + 1)) := by
  have z_range := Z.range
  obtain ⟨f, fd, F, hm, hb⟩ := S
  obtain ⟨f_law_next, fd_law_next, G_law_next, m_law_next, k_law_next, b_law_next⟩ := H_law_next
  obtain ⟨f_law_one, fd_law_one, G_law_one, m_law_one, k_law_one, b_law_one⟩ := H_law_one
  obtain ⟨f_law_wide, fd_law_wide, G_law_wide, m_law_wide, k_law_wide, b_law_wide⟩ := H_law_wide
  refine ⟨f, fd, ?_, hm, F.kp, hb⟩
  have nd := sc_law_wide.nd
  refine F.ok sc_law_wide (fun vs H Q E h => ?_) (fun cdv A outer s0 H vs Q E hr h => ?_)
  · obtain ⟨s, d, rfl, _⟩ := h
    rfl
  obtain ⟨s, d, rfl, hs, hd, hd7, q⟩ := h
  refine ⟨_, (pss_cons (ps_if (pt_cmpR op_eq (pv 1) pe_int (nomark _)) (pss_one (ps_ret (pe_call G_law_one (hr.mono (by omega)) rfl m_law_one k_law_one b_law_one .nil pass0 (pa_cons (pv 0) (pa_cons (pe_lst (pa_cons (pe_tup (pa_cons pe_str (pa_cons pe_str pa_nil))) (pa_cons (pe_tup (pa_cons pe_str (pa_cons pe_int pa_nil))) (pa_cons (pe_tup (pa_cons pe_str (pa_cons pe_bl pa_nil))) (pa_cons (pe_tup (pa_cons pe_str (pa_cons (pe_lst pa_nil) pa_nil))) pa_nil))))) pa_nil))))) pss_nil)
      (pss_cons (ps_set (i := 2) nd rfl (Or.inl rfl) (pe_call G_law_next (hr.mono (by omega)) rfl m_law_next k_law_next b_law_next .nil pass0 (pa_cons (pv 0) (pa_cons pe_int pa_nil))))
      (pss_cons (ps_if (pt_cmpR op_eq (pv 2) pe_int (nomark _)) (pss_one (ps_ret (pe_tup (pa_cons pe_str (pa_cons (pe_lc (own := [("k", 6)]) (g := gName 6) (tt := tYes) rfl nd (pi_range1 (by rfl) z_range (pa_cons (pe_op op_add pe_int (pe_call G_law_next (hr.mono (by omega)) rfl m_law_next k_law_next b_law_next .nil pass0 (pa_cons (pv 0) (pa_cons pe_int pa_nil)))) pa_nil)) (blkOk_by (N := N_law_wide) (sc := defScope s_law_wide) (by decide +kernel)) (fun _ _ _ _ _ => (pg_name (i := 6) nd rfl (Or.inl rfl))) (fun _ _ _ _ _ => pts_nil) (fun _ _ _ _ _ => (pe_call G_law_wide (hr.mono (by omega)) rfl m_law_wide k_law_wide b_law_wide .nil pass0 (pa_cons (pv 0) (pa_cons (pe_op op_sub (pv 1) pe_int) pa_nil))))) pa_nil))))) pss_nil)
      (pss_cons (ps_if (pt_cmpR op_eq (pv 2) pe_int (nomark _)) (pss_cons (ps_set (i := 3) nd rfl (Or.inl rfl) (pe_op op_add pe_int (pe_call G_law_next (hr.mono (by omega)) rfl m_law_next k_law_next b_law_next .nil pass0 (pa_cons (pv 0) (pa_cons pe_int pa_nil)))))
      (pss_one (ps_ret (pe_tup (pa_cons pe_str (pa_cons (pe_call G_law_next (hr.mono (by omega)) rfl m_law_next k_law_next b_law_next .nil pass0 (pa_cons (pv 0) (pa_cons (pv 3) pa_nil))) (pa_cons (pv 3) (pa_cons (pe_call G_law_wide (hr.mono (by omega)) rfl m_law_wide k_law_wide b_law_wide .nil pass0 (pa_cons (pv 0) (pa_cons (pe_op op_sub (pv 1) pe_int) pa_nil))) pa_nil)))))))) pss_nil)
      (pss_cons (ps_set (i := 4) nd rfl (Or.inl rfl) (pe_slice sl_list (pe_lst (pa_cons pe_str (pa_cons pe_str (pa_cons pe_str (pa_cons pe_str (pa_cons pe_str (pa_cons pe_str (pa_cons pe_str (pa_cons pe_str (pa_cons pe_str (pa_cons pe_str (pa_cons pe_str (pa_cons pe_str pa_nil))))))))))))) (po_some (pe_call G_law_next (hr.mono (by omega)) rfl m_law_next k_law_next b_law_next .nil pass0 (pa_cons (pv 0) (pa_cons pe_int pa_nil)))) po_none))
      (pss_cons (ps_setLc (i := 5) (own := [("label", 7)]) (g := gName 7) (tt := tYes) rfl nd rfl rfl (sw_true rfl rfl rfl (by decide +kernel)) (pi_list (pv 4)) (blkOk_by (N := N_law_wide) (sc := defScope s_law_wide) (by decide +kernel)) (fun _ _ _ _ _ => (pg_name (i := 7) nd rfl (Or.inl rfl))) (fun _ _ _ _ _ => pts_nil) (fun _ _ _ _ _ => (pe_tup (pa_cons (pv 7) (pa_cons (pe_call G_law_wide (hr.mono (by omega)) rfl m_law_wide k_law_wide b_law_wide .nil pass0 (pa_cons (pv 0) (pa_cons (pe_op op_sub (pv 1) pe_int) pa_nil))) pa_nil)))))
      (pss_cons (ps_if (pt_cmpR op_eq (pv 2) pe_int (nomark _)) (pss_one (ps_ret (pe_tup (pa_cons pe_str (pa_cons (pv 5) pa_nil))))) pss_nil)
      (pss_one (ps_ret (pe_tup (pa_cons pe_str (pa_cons (pe_tup (pa_cons pe_str (pa_cons (pv 5) pa_nil))) (pa_cons (pe_ix ix_list (pv 4) (pe_un un_neg pe_int) (fun _ _ => rfl)) (pa_cons (pe_call G_law_wide (hr.mono (by omega)) rfl m_law_wide k_law_wide b_law_wide .nil pass0 (pa_cons (pv 0) (pa_cons (pe_op op_sub (pv 1) pe_int) pa_nil))) pa_nil)))))))))))))), ?_⟩
  walk_at "rd"
  refine ite2 (fun c => ?_) (fun c => ?_)
  · have d0 : d = 0 := by
      have := V.int.inj (of_decide_eq_true c)
      omega
    subst d0
    walk_at "rd"
    intro p1 h1
    have S1 := same_new h1 (.tup [V.str "var", V.str "x"])
    have t1 : Tm K (nw H (upd H p1 (.tup [V.str "var", V.str "x"]))) (.ref p1) (.node (.var "x") []) := .var (SqT.of (nw_at h1))
    have c1 := hs.new (o := .tup [V.str "var", V.str "x"]) h1
    clear h1
    generalize upd H p1 (.tup [V.str "var", V.str "x"]) = H1 at *
    walk_at "rd"
    intro p2 h2
    have S2 := S1.trans (same_new h2 (.tup [V.str "int", V.int 7]))
    have t2 : Tm K (nw H (upd H1 p2 (.tup [V.str "int", V.int 7]))) (.ref p2) (.node (.int 7) []) := .int (SqT.of (nw_at (S1.fr h2)))
    have t1 := t1.same (nw_same (H := H) (same_new h2 (.tup [V.str "int", V.int 7])))
    have c2 := c1.new (o := .tup [V.str "int", V.int 7]) h2
    clear h2 S1 c1
    generalize upd H1 p2 (.tup [V.str "int", V.int 7]) = H2 at *
    walk_at "rd"
    intro p3 h3
    have S3 := S2.trans (same_new h3 (.tup [V.str "bool", V.bl false]))
    have t3 : Tm K (nw H (upd H2 p3 (.tup [V.str "bool", V.bl false]))) (.ref p3) (.node (.bool false) []) := .bool (SqT.of (nw_at (S2.fr h3)))
    have t1 := t1.same (nw_same (H := H) (same_new h3 (.tup [V.str "bool", V.bl false])))
    have t2 := t2.same (nw_same (H := H) (same_new h3 (.tup [V.str "bool", V.bl false])))
    have c3 := c2.new (o := .tup [V.str "bool", V.bl false]) h3
    clear h3 S2 c2
    generalize upd H2 p3 (.tup [V.str "bool", V.bl false]) = H3 at *
    walk_at "rd"
    intro p4 h4
    have S4 := S3.trans (same_new h4 (.lst []))
    have l4 : nw H (upd H3 p4 (.lst [])) p4 = some (.lst []) := nw_at (S3.fr h4)
    have t1 := t1.same (nw_same (H := H) (same_new h4 (.lst [])))
    have t2 := t2.same (nw_same (H := H) (same_new h4 (.lst [])))
    have t3 := t3.same (nw_same (H := H) (same_new h4 (.lst [])))
    have c4 := c3.new (o := .lst []) h4
    clear h4 S3 c3
    generalize upd H3 p4 (.lst []) = H4 at *
    walk_at "rd"
    intro p5 h5
    have S5 := S4.trans (same_new h5 (.tup [V.str "record", V.ref p4]))
    have t5 : Tm K (nw H (upd H4 p5 (.tup [V.str "record", V.ref p4]))) (.ref p5) (.node (.record []) []) := .record (bs := []) (us := []) (SqT.of (nw_at (S4.fr h5))) (SqL.of (nw_same (H := H) (same_new h5 (.tup [V.str "record", V.ref p4])) _ _ l4)) rfl rfl rfl (fun i b n u h => by simp at h) (fun i u t h => by simp at h)
    have t1 := t1.same (nw_same (H := H) (same_new h5 (.tup [V.str "record", V.ref p4])))
    have t2 := t2.same (nw_same (H := H) (same_new h5 (.tup [V.str "record", V.ref p4])))
    have t3 := t3.same (nw_same (H := H) (same_new h5 (.tup [V.str "record", V.ref p4])))
    have c5 := c4.new (o := .tup [V.str "record", V.ref p4]) h5
    clear h5 S4 l4 c4
    generalize upd H4 p5 (.tup [V.str "record", V.ref p4]) = H5 at *
    walk_at "rd"
    intro p6 h6
    have S6 := S5.trans (same_new h6 (.lst [V.ref p1, V.ref p2, V.ref p3, V.ref p5]))
    have c6 := c5.new (o := .lst [V.ref p1, V.ref p2, V.ref p3, V.ref p5]) h6
    have hall : ∀ v ∈ [V.ref p1, V.ref p2, V.ref p3, V.ref p5], ∃ t, Tm K (nw H (upd H5 p6 (.lst [V.ref p1, V.ref p2, V.ref p3, V.ref p5]))) v t ∧ Broad 0 t := fun v hv => by
      have sm := nw_same (H := H) (same_new h6 (.lst [V.ref p1, V.ref p2, V.ref p3, V.ref p5]))
      simp only [List.mem_cons, List.not_mem_nil, or_false] at hv
      rcases hv with rfl | rfl | rfl | rfl
      · exact ⟨_, t1.same sm, broad0 ⟨rfl, by decide +kernel⟩ trivial⟩
      · exact ⟨_, t2.same sm, broad0 ⟨rfl, by decide, by decide⟩ trivial⟩
      · exact ⟨_, t3.same sm, broad0 rfl trivial⟩
      · exact ⟨_, t5.same sm, broad0 ⟨rfl, by decide, fun n hn => (by cases hn), List.Pairwise.nil⟩ trivial⟩
    clear h6 t1 t2 t3 t5 c5 S5
    refine ⟨s, p6, _, rfl, c6, SqL.of upd_same, No3.of_ref fun v hv i e => ?_, by simp, by simp, fun v H7 hv k7 c7 => ?_⟩
    · obtain ⟨t, m, _⟩ := hall v hv
      exact m.ne_int i e
    · obtain ⟨t, m, b⟩ := hall v hv
      exact q v H7 t ((S6.keep).trans k7) c7 (m.same (nw_keep k7 hs)) b
  obtain ⟨e, rfl⟩ : ∃ e, d = e + 1 := ⟨d - 1, by
    have : d ≠ 0 := fun z => c (by rw [z]; rfl)
    omega⟩
  walk_at "rd"
  refine ⟨s, 4, rfl, hs, by decide, by decide, fun i0 H0 i00 i01 k0 c0 => ?_⟩
  walk_at "rd"
  refine ite2 (fun w0 => ?_) (fun w0 => ?_)
  · walk_at "rd"
    refine ⟨s, 5, rfl, c0, by decide, by decide, fun i1 H1 i10 i11 k1 c1 => ?_⟩
    walk_at "rd"
    intro D hD
    have kA := k0.trans k1
    have nD : H D = none := kA.none c1 hD
    refine lc_range (lo := 0) (n := (2 + i1).toNat) (fun i X => ∃ (G : Hp) (us : List V) (ts : List T), Same G X ∧ G D = none ∧ Keep s H1 G ∧ Src G s ∧ X D = some (.lst us) ∧ us.length = i ∧ ts.length = i ∧
        (∀ (j : Nat) (u : V) (t : T), us[j]? = some u → ts[j]? = some t → Tm K (nw H G) u t) ∧ ∀ t ∈ ts, Broad e t)
      ⟨H1, [], [], same_new hD _, hD, Keep.refl _ _, c1, upd_same, rfl, rfl, fun _ _ _ h => by simp at h, fun t h => by cases h⟩ ?_ ?_
    · rintro i X hi ⟨G, us, ts, g1, g2, g3, g4, g5, e2, e3, f2, f3⟩
      walk_at "rd"
      refine ⟨s, e, congrArg (fun z => [V.ref s, V.int z]) (by omega), g4.same g1, by omega, by omega, fun v X' t kx hsx tm dr => ?_⟩
      obtain ⟨a1, a2, a3, a4⟩ := grow0 (L := .lst (us ++ [v])) g1 g2 g4 kx hsx
      have b1 : Same (nw H G) (nw H (off D X')) := nw_keep a3 hs
      have hD' : X' D = some (.lst us) := kx.list (g4.same g1) (No3.of_ref fun v hv j z => by
        obtain ⟨c, hc, q⟩ := List.getElem_of_mem hv
        exact (f2 c v (ts[c]'(by omega)) (by rw [List.getElem?_eq_getElem hc, q]) (List.getElem?_eq_getElem (by omega))).ne_int j z) g5
      refine ⟨us, hD', small1000 (by omega), off D X', us ++ [v], ts ++ [t], a1, a2, g3.trans a3, a4, upd_same, by simp [e2], by simp [e3], ?_, ?_⟩
      · intro j u t' h1 h2
        by_cases q : j < i
        · rw [List.getElem?_append_left (by omega)] at h1 h2
          exact (f2 j u t' h1 h2).same b1
        · have hj : j = i := by
            have := (List.getElem?_eq_some_iff.mp h1).1
            simp at this
            omega
          subst hj
          rw [List.getElem?_append_right (by omega)] at h1 h2
          simp [e2, e3] at h1 h2
          rw [← h1, ← h2]
          refine tm.same (fun c o hc => ?_)
          obtain ⟨x1, x2⟩ := nw_get hc
          have x3 : H c = none := ((kA.trans g3).same g1).none (g4.same g1) x1
          rw [nw_of x3, off_ne (fun z => by rw [z, g5] at x1; cases x1)]
          exact x2
      · intro t' ht
        rcases List.mem_append.mp ht with ht | ht
        · exact f3 t' ht
        · rw [List.mem_singleton.mp ht]
          exact dr
    · rintro X ⟨G, us, ts, g1, g2, g3, g4, g5, e2, e3, f2, f3⟩
      have kE := (kA.trans g3).same g1
      have hsE := g4.same g1
      walk_at "rd"
      intro p6 hp6
      have S6 := same_new hp6 (.tup [V.str "tuple", V.ref D])
      have b6 := nw_same (H := H) S6
      have z6 : (T.node .tup ts).size ≤ 1 + 6 * wsz e := node_size (by omega) fun t ht => (f3 t ht).2.1
      have d6 : (T.node .tup ts).deep ≤ 1 + (2 * e + 1) := node_deep fun t ht => (f3 t ht).2.2
      have pe := wsz_pos e
      exact q _ _ (.node .tup ts) (kE.same S6) (hsE.same S6) (.tup (SqT.of (nw_at (kE.none hsE hp6))) (SqL.of (b6 _ _ ((nw_of nD).trans g5))) (by omega) (fun j u t h1 h2 => ((f2 j u t h1 h2).same (nw_same g1)).same b6))
        ⟨.mk ⟨by omega, by omega⟩ trivial fun t ht => (f3 t ht).1, by simp only [wsz]; omega, by omega⟩
  walk_at "rd"
  refine ite2 (fun w1 => ?_) (fun w1 => ?_)
  · walk_at "rd"
    refine ⟨s, 5, rfl, c0, by decide, by decide, fun i1 H1 i10 i11 k1 c1 => ?_⟩
    walk_at "rd"
    refine ⟨s, _, rfl, c1, by omega, by omega, fun i2 H2 i20 i21 k2 c2 => ?_⟩
    walk_at "rd"
    refine ⟨s, e, congrArg (fun z => [V.ref s, V.int z]) (by omega), c2, by omega, by omega, fun v H3 t k3 c3 tm dr => ?_⟩
    walk_at "rd"
    intro p4 hp4
    have S4 := same_new hp4 (.tup [V.str "part", V.int i2, V.int (2 + i1), v])
    have kA := (k0.trans k1).trans k2
    have pe := wsz_pos e
    obtain ⟨r1, r2, r3⟩ := dr
    exact q _ _ (.node (.part i2 (2 + i1)) [t]) ((kA.trans k3).same S4) (c3.same S4) (.part (SqT.of (nw_at ((kA.trans k3).none c3 hp4))) ((tm.same (nw_in kA c2)).same (nw_same S4)))
      ⟨.mk ⟨rfl, i20, i21, by omega, by omega⟩ trivial fun t ht => (by rw [List.mem_singleton.mp ht]; exact r1), by simp only [T.size, T.sizes, wsz]; omega, by simp only [T.deep, T.deeps]; omega⟩
  walk_at "rd"
  intro p1 hp1
  have S1 := same_new hp1 (.lst (lab12.map V.str))
  have l1 := @upd_same H0 p1 (.lst (lab12.map V.str))
  have c1 := c0.new (o := .lst (lab12.map V.str)) hp1
  have k1 := k0.same S1
  clear hp1 S1
  show tPart _ _ (upd H0 p1 (.lst (lab12.map V.str))) _
  generalize upd H0 p1 (.lst (lab12.map V.str)) = H1 at *
  walk_at "rd"
  refine ⟨s, 12, rfl, c1, by decide, by decide, fun i2 H2 i20 i21 k2 c2 => ?_⟩
  have l2 := k2.list c1 (no3_strs lab12) l1
  have kA2 := k1.trans k2
  clear k1 k2 c1 l1
  walk_at "rd"
  refine ⟨p1, _, rfl, SqL.of l2, fun p3 hp3 => ?_⟩
  obtain ⟨ls, el, n1, n12, lok, lpw⟩ := labels12 i20 i21
  rw [el]
  have S3 := same_new hp3 (.lst (ls.map V.str))
  have kb := kA2.same S3
  have hsb := c2.same S3
  have h1b := @upd_same H2 p3 (.lst (ls.map V.str))
  clear hp3 S3 c2 kA2 l2
  generalize upd H2 p3 (.lst (ls.map V.str)) = Hb at *
  walk_at "rd"
  refine ⟨⟨_, SqL.of h1b⟩, fun D hD => ?_⟩
  have nD : H D = none := kb.none hsb hD
  refine lc_list (K := K) (a := p3) (xs := ls.map V.str) (fun i X => ∃ (G : Hp) (bs : List Addr) (us : List V) (ts : List T), Same G X ∧ G D = none ∧ Keep s Hb G ∧ Src G s ∧ X D = some (.lst (bs.map V.ref)) ∧ bs.length = i ∧ us.length = i ∧ ts.length = i ∧
      (∀ (j : Nat) (b : Addr) (n : Str) (u : V), bs[j]? = some b → ls[j]? = some n → us[j]? = some u → SqT K (nw H G) b [.str n, u]) ∧ (∀ (j : Nat) (u : V) (t : T), us[j]? = some u → ts[j]? = some t → Tm K (nw H G) u t) ∧ ∀ t ∈ ts, Broad e t)
    ⟨Hb, [], [], [], same_new hD _, hD, Keep.refl _ _, hsb, upd_same, rfl, rfl, rfl, fun _ _ _ _ h => by simp at h, fun _ _ _ h => by simp at h, fun t h => by cases h⟩
    (fun i X hi ⟨G, bs, us, ts, g1, _, g3, _⟩ => SqL.of (g1 _ _ (g3.list hsb (no3_strs ls) h1b))) ?_ ?_
  · rintro i x X hx ⟨G, bs, us, ts, g1, g2, g3, g4, g5, e1, e2, e3, f1, f2, f3⟩
    obtain ⟨n, hn1, hn2, rfl⟩ := get_map hx
    have hi := (List.getElem?_eq_some_iff.mp hn2).1
    walk_at "rd"
    refine ⟨s, e, congrArg (fun z => [V.ref s, V.int z]) (by omega), g4.same g1, by omega, by omega, fun v X' t kx hsx tm dr => ?_⟩
    walk_at "rd"
    intro p hp
    have hD' : X' D = some (.lst (bs.map V.ref)) := kx.list (g4.same g1) (No3.of_ref fun v hv j e => by obtain ⟨b, _, q⟩ := List.mem_map.mp hv; rw [e] at q; cases q) g5
    obtain ⟨a1, a2, a3, a4⟩ := grow (o := .tup [V.str n, v]) (L := .lst (bs.map V.ref ++ [V.ref p])) g1 g2 g4 kx hsx hD' hp
    have kH : Keep s H X' := ((kb.trans g3).same g1).trans kx
    have np : H p = none := kH.none hsx hp
    have b1 : Same (nw H G) (nw H (upd (off D X') p (.tup [V.str n, v]))) := nw_keep a3 hs
    refine ⟨bs.map V.ref, (upd_ne (ne_of_none hD' hp)).trans hD', by rw [List.length_map]; exact small1000 (by omega), upd (off D X') p (.tup [V.str n, v]), bs ++ [p], us ++ [v], ts ++ [t], a1, a2, g3.trans a3, a4, by rw [upd_same, List.map_append]; rfl, by simp [e1], by simp [e2], by simp [e3], ?_, ?_, ?_⟩
    · intro j b m u h1 h2 h3
      by_cases q : j < i
      · rw [List.getElem?_append_left (by omega)] at h1 h3
        exact b1.tupS (f1 j b m u h1 h2 h3)
      · have hj : j = i := by
          have := (List.getElem?_eq_some_iff.mp h1).1
          simp at this
          omega
        subst hj
        rw [List.getElem?_append_right (by omega)] at h1 h3
        simp [e1, e2] at h1 h3
        rw [hn2] at h2
        cases h2
        rw [← h1, ← h3]
        exact SqT.of (nw_at np)
    · intro j u t' h1 h2
      by_cases q : j < i
      · rw [List.getElem?_append_left (by omega)] at h1 h2
        exact (f2 j u t' h1 h2).same b1
      · have hj : j = i := by
          have := (List.getElem?_eq_some_iff.mp h1).1
          simp at this
          omega
        subst hj
        rw [List.getElem?_append_right (by omega)] at h1 h2
        simp [e2, e3] at h1 h2
        rw [← h1, ← h2]
        refine tm.same (fun c o hc => ?_)
        obtain ⟨x1, x2⟩ := nw_get hc
        have x3 : H c = none := ((kb.trans g3).same g1).none (g4.same g1) x1
        rw [nw_of x3, upd_ne (ne_of_none x2 hp), off_ne (fun z => by rw [z, g5] at x1; cases x1)]
        exact x2
    · intro t' ht
      rcases List.mem_append.mp ht with ht | ht
      · exact f3 t' ht
      · rw [List.mem_singleton.mp ht]
        exact dr
  · rintro X ⟨G, bs, us, ts, g1, g2, g3, g4, g5, e1, e2, e3, f1, f2, f3⟩
    rw [List.length_map] at e1 e2 e3
    have kX : Keep s H X := (kb.trans g3).same g1
    have hsX := g4.same g1
    have h1X := g1 _ _ (g3.list hsb (no3_strs ls) h1b)
    have tR : ∀ p2, X p2 = none → Tm K (nw H (upd X p2 (.tup [V.str "record", V.ref D]))) (.ref p2) (.node (.record ls) ts) := fun p2 hp2 => by
      have c := nw_same (H := H) (same_new hp2 (.tup [V.str "record", V.ref D]))
      exact .record (SqT.of (nw_at (kX.none hsX hp2))) (SqL.of (c _ _ ((nw_of nD).trans g5))) (by omega) (by omega) (by omega) (fun j b n u a1 a2 a3 => c.tupS ((nw_same g1).tupS (f1 j b n u a1 a2 a3))) (fun j u t a1 a2 => ((f2 j u t a1 a2).same (nw_same g1)).same c)
    have wR : Wt (.node (.record ls) ts) := .mk ⟨by omega, by omega, lok, lpw⟩ trivial fun t ht => (f3 t ht).1
    have zR : (T.node (.record ls) ts).size ≤ 1 + 12 * wsz e := node_size (by omega) fun t ht => (f3 t ht).2.1
    have dR : (T.node (.record ls) ts).deep ≤ 1 + (2 * e + 1) := node_deep fun t ht => (f3 t ht).2.2
    have pe := wsz_pos e
    clear f1 f2 f3 hsb h1b hD kb g1 g2 g3 g4 G
    walk_at "rd"
    refine ite2 (fun w2 => ?_) (fun w2 => ?_)
    · walk_at "rd"
      intro p2 hp2
      exact q _ _ _ (kX.trans (Keep.new hp2)) (hsX.new hp2) (tR p2 hp2) ⟨wR, by simp only [wsz]; omega, by omega⟩
    · walk_at "rd"
      intro p2 hp2
      have S2 := same_new hp2 (.tup [V.str "record", V.ref D])
      have t2 := tR p2 hp2
      have k2 := kX.same S2
      have hs2 := hsX.same S2
      have h12 := S2 _ _ h1X
      clear tR kX hsX h1X g5 S2 hp2
      generalize upd X p2 (.tup [V.str "record", V.ref D]) = X2 at *
      obtain ⟨ms, m, em⟩ : ∃ ms m, ls = ms ++ [m] := ⟨_, _, (List.dropLast_concat_getLast (List.ne_nil_of_length_pos n1)).symm⟩
      walk_at "rd"
      refine ⟨p3, _, _, _, rfl, rfl, SqL.of h12, by rw [em, List.map_append]; exact atI_last _ _, ?_⟩
      walk_at "rd"
      refine ⟨s, e, congrArg (fun z => [V.ref s, V.int z]) (by omega), hs2, by omega, by omega, fun v X3 t k3 hs3 tm dr => ?_⟩
      walk_at "rd"
      intro p4 hp4
      have S4 := same_new hp4 (.tup [V.str "with", V.ref p2, V.str m, v])
      obtain ⟨r1, r2, r3⟩ := dr
      exact q _ _ (.node (.wth m) [.node (.record ls) ts, t]) ((k2.trans k3).same S4) (hs3.same S4) (.wth (SqT.of (nw_at ((k2.trans k3).none hs3 hp4))) ((t2.same (nw_keep k3 hs)).same (nw_same S4)) ((tm.same (nw_in k2 hs2)).same (nw_same S4)))
        ⟨.mk ⟨rfl, lok m (by rw [em]; simp)⟩ trivial (fun t ht => by simp at ht; rcases ht with rfl | rfl <;> assumption), by simp only [T.size, T.sizes, wsz] at zR ⊢; omega, by simp only [T.deep, T.deeps] at dR ⊢; omega⟩
end
end Vt


set_option Elab.async false
set_option linter.all false
set_option maxRecDepth 100000
set_option maxHeartbeats 4000000

namespace Vt
open PySem PySem.Spec PyProof.Rows L2
/-! ### lists that are cleared -/
/-- a value whose lists stand in R, at most n deep -/
inductive Cl (K : PySem.W.Frag) (H : Hp) (R : Addr → Prop) : Nat → V → Prop
  | str {n : Nat} {z : Str} : Cl K H R n (.str z)
  | int {n : Nat} {i : Int} : Cl K H R n (.int i)
  | bl {n : Nat} {b : Bool} : Cl K H R n (.bl b)
  | tup {n : Nat} {a : Addr} {xs : List V} : SqT K H a xs → (∀ x ∈ xs, Cl K H R n x) → Cl K H R (n + 1) (.ref a)
  | lst {n : Nat} {a : Addr} {xs : List V} : R a → H a = some (.lst xs) → (∀ x ∈ xs, Cl K H R n x) → Cl K H R (n + 1) (.ref a)
/-- R holds lists alone, none of the module's -/
def Lists (H : Hp) (R : Addr → Prop) : Prop := ∀ b, R b → ∃ xs, H b = some (.lst xs)
/-- some of R's lists are empty now, all else is as it was -/
structure Chg (R : Addr → Prop) (H H' : Hp) : Prop where
  old : ∀ b o, ¬ R b → H b = some o → H' b = some o
  lst : ∀ b xs, R b → H b = some (.lst xs) → H' b = some (.lst xs) ∨ H' b = some (.lst [])
theorem Chg.refl (R : Addr → Prop) (H : Hp) : Chg R H H := ⟨fun _ _ _ e => e, fun _ _ _ e => .inl e⟩
theorem Chg.trans {R : Addr → Prop} {H H1 H2 : Hp} (a : Chg R H H1) (b : Chg R H1 H2) : Chg R H H2 := ⟨fun c o n e => b.old c o n (a.old c o n e), fun c xs r e => by
  rcases a.lst c xs r e with h | h
  · exact b.lst c xs r h
  · rcases b.lst c [] r h with h | h <;> exact .inr h⟩
theorem Chg.lists {R : Addr → Prop} {H H' : Hp} (l : Lists H R) (c : Chg R H H') : Lists H' R := fun b r => by
  obtain ⟨xs, e⟩ := l b r
  rcases c.lst b xs r e with h | h <;> exact ⟨_, h⟩
theorem Chg.same {R : Addr → Prop} {H H1 H2 : Hp} (a : Chg R H H1) (s : Same H1 H2) : Chg R H H2 := ⟨fun c o n e => s _ _ (a.old c o n e), fun c xs r e => (a.lst c xs r e).imp (s _ _) (s _ _)⟩
theorem Lists.same {R : Addr → Prop} {H H' : Hp} (l : Lists H R) (s : Same H H') : Lists H' R := fun b r => (l b r).imp fun xs e => s _ _ e
theorem Cl.chg {K : PySem.W.Frag} {R : Addr → Prop} {H H' : Hp} (l : Lists H R) (c : Chg R H H') {n : Nat} {v : V} (h : Cl K H R n v) : Cl K H' R n v := by
  induction h with
  | str => exact .str
  | int => exact .int
  | bl => exact .bl
  | tup h _ ih =>
    refine .tup ?_ ih
    have no : ∀ a o, H a = some o → (∀ xs, o ≠ .lst xs) → H' a = some o := fun a o e n => c.old a o (fun r => by
      obtain ⟨xs, e'⟩ := l a r
      rw [e] at e'
      exact n xs (Option.some.inj e')) e
    rcases h with (h | ⟨o, h⟩) | h
    · exact .inl (.inl (no _ _ h fun xs z => by cases z))
    · exact .inl (.inr ⟨o, no _ _ h fun xs z => by cases z⟩)
    · exact .inr h
  | lst r h _ ih =>
    rcases c.lst _ _ r h with h | h
    · exact .lst r h ih
    · exact .lst r h fun x hx => by cases hx
theorem chgT {K : PySem.W.Frag} {R : Addr → Prop} {H H' : Hp} (l : Lists H R) (c : Chg R H H') {a : Addr} {xs : List V} (h : SqT K H a xs) : SqT K H' a xs := by
  have no : ∀ a o, H a = some o → (∀ xs, o ≠ .lst xs) → H' a = some o := fun a o e n => c.old a o (fun r => by
    obtain ⟨xs, e'⟩ := l a r
    rw [e] at e'
    exact n xs (Option.some.inj e')) e
  rcases h with (h | ⟨o, h⟩) | h
  · exact .inl (.inl (no _ _ h fun xs z => by cases z))
  · exact .inl (.inr ⟨o, no _ _ h fun xs z => by cases z⟩)
  · exact .inr h
def spCl (K : PySem.W.Frag) (n : Nat) : Sp := fun vs H Q _ => ∃ (v : V) (R : Addr → Prop), vs = [v] ∧ Lists H R ∧ Cl K H R n v ∧ ∀ H', Chg R H H' → Q .non H'
theorem pi_or {X : Cx} {tg e : Expr} {A B : TI} (a : PI X tg e A) (b : PI X tg e B) : PI X tg e (fun σ H R => A σ H R ∨ B σ H R) := ⟨fun pins s σ H R I h => by
  rcases h with h | h
  · exact a.run pins s σ H R I h
  · exact b.run pins s σ H R I h⟩
theorem Chg.clear {R : Addr → Prop} {H : Hp} {a : Addr} (r : R a) : Chg R H (upd H a (.lst [])) := ⟨fun b o n e => by
  rw [upd_ne (fun z => n (by rw [z]; exact r))]
  exact e, fun b xs _ e => by
  by_cases z : b = a
  · rw [z, upd_same]
    exact .inr rfl
  · rw [upd_ne z]
    exact .inl e⟩
theorem any1 {K : PySem.W.Frag} {t c : Value} {r : List Value} (h : PySem.W.kitOne K t c = some true) : PySem.W.kitAny K t (c :: r) = some true := by
  simp only [PySem.W.kitAny, h]
theorem any0 {K : PySem.W.Frag} {t c : Value} {r : List Value} {b : Option Bool} (h : PySem.W.kitOne K t c = some false) (h2 : PySem.W.kitAny K t r = b) : PySem.W.kitAny K t (c :: r) = b := by
  simp only [PySem.W.kitAny, h, h2]
abbrev s_law_cleared : Stmt := topS 57
abbrev N_law_cleared : List Str := ["thing", "one"]
theorem sc_law_cleared : FnScope N_law_cleared ["thing"] (defScope s_law_cleared) := ⟨rfl, rfl, rfl, by decide +kernel, rfl, by decide +kernel, by decide +kernel⟩
section
variable {P : Program} {w : World} {K : PySem.W.Frag} {mg : Str → Option Value} {base : Heap}
theorem ok_cleared {n : Nat} (S : Stands K mg "_law_cleared" s_law_cleared ["thing"]) (Z : Blt mg) (H_law_cleared : DefOk P w K mg base CX0 (n + 1) "_law_cleared" ["thing"] (spCl K n)) : DefOk P w K mg base CX0 (n + 2) "_law_cleared" ["thing"] (spCl K (n + 1)) := by
  have z_isinstance := Z.isinstance
  have z_tuple := Z.tuple
  have z_list := Z.list
  obtain ⟨f, fd, F, hm, hb⟩ := S
  obtain ⟨f_law_cleared, fd_law_cleared, G_law_cleared, m_law_cleared, k_law_cleared, b_law_cleared⟩ := H_law_cleared
  refine ⟨f, fd, ?_, hm, F.kp, hb⟩
  have nd := sc_law_cleared.nd
  refine F.ok sc_law_cleared (fun vs H Q E h => ?_) (fun cdv A outer s0 H vs Q E hr h => ?_)
  · obtain ⟨v, R, rfl, _⟩ := h
    rfl
  obtain ⟨v, R, rfl, hl, hc, q⟩ := h
  refine ⟨_, (C8.pss_cut (ps_if (pt_val (pe_callB call_isiT (by rfl) z_isinstance (by decide +kernel) (pa_cons (pv 0) (pa_cons (pe_tup (pa_cons (pe_bltn (v := .ty "tuple") (by rfl) z_tuple (by decide +kernel) rfl) (pa_cons (pe_bltn (v := .ty "list") (by rfl) z_list (by decide +kernel) rfl) pa_nil))) pa_nil)))) (pss_one (ps_for PassesOwn.never rfl (pi_or (pi_list (pv 0)) (pi_tup (pv 0))) (pg_name (i := 1) nd rfl (Or.inl rfl)) (pss_one (ps_expr (pe_call G_law_cleared (hr.mono (by omega)) rfl m_law_cleared k_law_cleared b_law_cleared .nil pass0 (pa_cons (pv 1) pa_nil)))))) pss_nil)
      (pss_one (ps_if (pt_val (pe_callB call_isi (by rfl) z_isinstance (by decide +kernel) (pa_cons (pv 0) (pa_cons (pe_bltn (v := .ty "list") (by rfl) z_list (by decide +kernel) rfl) pa_nil)))) (pss_one (ps_expr (pe_bm0 PySem.F.plainAttrs_list PySem.F.slot_list_clear PySem.F.type_list_clear mt_clear (pv 0)))) pss_nil))), ?_⟩
  refine ⟨fun σ' X' => ∃ s1 : Option V, σ' = [some v, s1] ∧ Chg R H X', ?_, ?_⟩
  · walk_at "rd"
    cases hc with
    | str =>
      intro p hp
      refine ⟨_, p, _, _, [.type "tuple", .type "list"], false, rfl, upd_same, .cons (.ty _) (.cons (.ty _) .nil), .base (.str _), any0 (kit_ty (by decide +kernel)) (any0 (kit_ty (by decide +kernel)) rfl), _, rfl, iteF ⟨_, rfl, (Chg.refl R H).same (same_new hp _)⟩⟩
    | int =>
      intro p hp
      refine ⟨_, p, _, _, [.type "tuple", .type "list"], false, rfl, upd_same, .cons (.ty _) (.cons (.ty _) .nil), .base (.int _), any0 (kit_ty (by decide +kernel)) (any0 (kit_ty (by decide +kernel)) rfl), _, rfl, iteF ⟨_, rfl, (Chg.refl R H).same (same_new hp _)⟩⟩
    | bl =>
      intro p hp
      refine ⟨_, p, _, _, [.type "tuple", .type "list"], false, rfl, upd_same, .cons (.ty _) (.cons (.ty _) .nil), .base (.bl _), any0 (kit_ty (by decide +kernel)) (any0 (kit_ty (by decide +kernel)) rfl), _, rfl, iteF ⟨_, rfl, (Chg.refl R H).same (same_new hp _)⟩⟩
    | @tup _ a xs h1 h2 =>
      intro p hp
      have S1 := same_new hp (.tup [V.ty "tuple", V.ty "list"])
      refine ⟨_, p, _, _, [.type "tuple", .type "list"], true, rfl, upd_same, .cons (.ty _) (.cons (.ty _) .nil), tyT (S1.tupS h1), any1 (kit_ty (by decide +kernel)), _, rfl, iteT ?_⟩
      have L1 := hl.same S1
      have c1 := (Chg.refl R H).same S1
      have i2 : ∀ x ∈ xs, Cl K (upd H p (.tup [V.ty "tuple", V.ty "list"])) R n x := fun x hx => (h2 x hx).chg hl c1
      have t1 := S1.tupS h1
      clear hp S1
      generalize upd H p (.tup [V.ty "tuple", V.ty "list"]) = H1 at *
      refine .inr ⟨_, rfl, a, rfl, ⟨_, t1⟩, ?_⟩
      refine for_it (walk_tup (K := K) (a := a) (xs := xs)) (fun i σ X => ∃ s1 : Option V, σ = [some (.ref a), s1] ∧ Chg R H1 X) ⟨none, rfl, Chg.refl _ _⟩ (fun i σ X hi ⟨_, _, c⟩ => chgT L1 c t1) ?_ ?_
      · rintro i x σ X X' hi ⟨s1, rfl, c⟩ ⟨rfl, hx⟩
        have hm := List.mem_of_getElem? hx
        exact ⟨_, rfl, x, R, rfl, c.lists L1, (i2 x hm).chg L1 c, fun X2 c2 => ⟨_, rfl, c.trans c2⟩⟩
      · rintro σ X ⟨s1, rfl, c⟩
        exact ⟨_, rfl, c1.trans c⟩
    | @lst _ a xs h1 h2 h3 =>
      intro p hp
      have S1 := same_new hp (.tup [V.ty "tuple", V.ty "list"])
      have t1 := S1 _ _ h2
      refine ⟨_, p, _, _, [.type "tuple", .type "list"], true, rfl, upd_same, .cons (.ty _) (.cons (.ty _) .nil), tyL (SqL.of t1), any0 (kit_ty (by decide +kernel)) (any1 (kit_ty (by decide +kernel))), _, rfl, iteT ?_⟩
      have L1 := hl.same S1
      have c1 := (Chg.refl R H).same S1
      have i2 : ∀ x ∈ xs, Cl K (upd H p (.tup [V.ty "tuple", V.ty "list"])) R n x := fun x hx => (h3 x hx).chg hl c1
      clear hp S1
      generalize upd H p (.tup [V.ty "tuple", V.ty "list"]) = H1 at *
      refine .inl ⟨_, rfl, a, rfl, ⟨_, SqL.of t1⟩, ?_⟩
      refine ⟨fun i m σ X => m = xs.length - i ∧ ∃ s1 : Option V, σ = [some (.ref a), s1] ∧ Chg R H1 X, ⟨_, rfl, none, rfl, Chg.refl _ _⟩, ?_⟩
      rintro i m σ X ⟨rfl, s1, rfl, c⟩
      rcases c.lst a xs h1 t1 with h | h
      · by_cases hi : i < xs.length
        · refine .inr ⟨⟨xs, xs[i], SqL.of h, by simp [hi]⟩, fun σ' X' => ∃ s1 : Option V, σ' = [some (.ref a), s1] ∧ Chg R H1 X', fun σ' X' z => ⟨xs.length - (i + 1), by omega, rfl, z⟩, fun x X' y => ?_⟩
          obtain ⟨rfl, hx⟩ := y
          have hx := hx xs (SqL.of h)
          have hm := List.mem_of_getElem? hx
          exact ⟨_, rfl, x, R, rfl, c.lists L1, (i2 x hm).chg L1 c, fun X2 c2 => ⟨_, rfl, c.trans c2⟩⟩
        · exact .inl ⟨⟨xs, SqL.of h, by omega⟩, ⟨_, rfl, c1.trans c⟩⟩
      · exact .inl ⟨⟨[], SqL.of h, Nat.zero_le _⟩, ⟨_, rfl, c1.trans c⟩⟩
  · rintro σ' X' ⟨s1, rfl, ch⟩
    have hc' := hc.chg hl ch
    have hl' := ch.lists hl
    walk_at "rd"
    cases hc' with
    | str => exact ⟨_, _, _, _, false, rfl, .ty _, .base (.str _), kit_ty (by decide +kernel), _, rfl, iteF (q _ ch)⟩
    | int => exact ⟨_, _, _, _, false, rfl, .ty _, .base (.int _), kit_ty (by decide +kernel), _, rfl, iteF (q _ ch)⟩
    | bl => exact ⟨_, _, _, _, false, rfl, .ty _, .base (.bl _), kit_ty (by decide +kernel), _, rfl, iteF (q _ ch)⟩
    | tup h1 h2 => exact ⟨_, _, _, _, false, rfl, .ty _, tyT h1, kit_ty (by decide +kernel), _, rfl, iteF (q _ ch)⟩
    | @lst _ a xs h1 h2 h3 =>
      refine ⟨_, _, _, _, true, rfl, .ty _, tyL (SqL.of h2), kit_ty (by decide +kernel), _, rfl, iteT ?_⟩
      exact ⟨_, rfl, .inl ⟨rfl, _, SqL.of h2⟩, a, _, rfl, rfl, h2, q _ (ch.trans (Chg.clear h1))⟩
end
end Vt


set_option Elab.async false
set_option linter.all false
set_option maxRecDepth 100000
set_option maxHeartbeats 4000000
namespace Vt
open PySem PySem.Spec PyProof.Rows L2
/-! ### a term as data -/
def pairs : List Str → List PyData → List PyData
  | n :: ns, d :: ds => .tuple [.str n, d] :: pairs ns ds
  | _, _ => []
def Hd.form : Hd → List PyData → PyData
  | .var n, _ => .tuple [.str "var", .str n]
  | .int k, _ => .tuple [.str "int", .int k]
  | .bool b, _ => .tuple [.str "bool", .bool b]
  | .fn n, [d] => .tuple [.str "fun", .str n, d]
  | .app, [d, e] => .tuple [.str "app", d, e]
  | .lt n, [d, e] => .tuple [.str "let", .str n, d, e]
  | .rc n, [d, e] => .tuple [.str "rec", .str n, d, e]
  | .cond, [d, e, f] => .tuple [.str "if", d, e, f]
  | .tup, ds => .tuple [.str "tuple", .list ds]
  | .part k z, [d] => .tuple [.str "part", .int k, .int z, d]
  | .record ls, ds => .tuple [.str "record", .list (pairs ls ds)]
  | .field n, [d] => .tuple [.str "field", d, .str n]
  | .wth n, [d, e] => .tuple [.str "with", d, .str n, e]
  | _, _ => .none
mutual
def T.data : T → PyData
  | .node h ks => h.form (T.datas ks)
def T.datas : List T → List PyData
  | [] => []
  | t :: r => t.data :: T.datas r
end
theorem datas_dp {K : PySem.W.Frag} {H : Hp} : ∀ {xs : List V} {ts : List T}, xs.length = ts.length → (∀ (i : Nat) (v : V) (t : T), xs[i]? = some v → ts[i]? = some t → Dp K H v t.data) → DpAll K H xs (T.datas ts)
  | [], [], _, _ => .nil
  | [], t :: ts, h, _ => by simp at h
  | x :: xs, [], h, _ => by simp at h
  | x :: xs, t :: ts, h, f => .cons (f 0 x t rfl rfl) (datas_dp (by simpa using h) fun i v u a b => f (i + 1) v u (by simpa using a) (by simpa using b))
theorem pairs_dp {K : PySem.W.Frag} {H : Hp} : ∀ {bs : List Addr} {ls : List Str} {us : List V} {ts : List T}, bs.length = ts.length → ls.length = ts.length → us.length = ts.length → (∀ (i : Nat) (b : Addr) (n : Str) (u : V), bs[i]? = some b → ls[i]? = some n → us[i]? = some u → SqT K H b [.str n, u]) →
    (∀ (i : Nat) (u : V) (t : T), us[i]? = some u → ts[i]? = some t → Dp K H u t.data) → DpAll K H (bs.map V.ref) (pairs ls (T.datas ts))
  | [], [], [], [], _, _, _, _, _ => .nil
  | b :: bs, n :: ls, u :: us, t :: ts, h1, h2, h3, f, g => .cons (.tup (f 0 b n u rfl rfl rfl) (.cons (.str n) (.cons (g 0 u t rfl rfl) .nil)))
      (pairs_dp (by simpa using h1) (by simpa using h2) (by simpa using h3) (fun i b' n' u' a1 a2 a3 => f (i + 1) b' n' u' (by simpa using a1) (by simpa using a2) (by simpa using a3)) fun i u' t' a1 a2 => g (i + 1) u' t' (by simpa using a1) (by simpa using a2))
  | [], _ :: _, _, [], _, h, _, _, _ => by simp at h
  | [], _, _, _ :: _, h, _, _, _, _ => by simp at h
  | _ :: _, _, _, [], h, _, _, _, _ => by simp at h
  | _ :: _, [], _, _ :: _, _, h, _, _, _ => by simp at h
  | _ :: _, _ :: _, [], _ :: _, _, _, h, _, _ => by simp at h
  | [], [], _ :: _, [], _, _, h, _, _ => by simp at h
theorem Tm.dp {K : PySem.W.Frag} {H : Hp} {v : V} {t : T} (h : Tm K H v t) : Dp K H v t.data := by
  induction h with
  | var h => exact .tup h (.cons (.str _) (.cons (.str _) .nil))
  | int h => exact .tup h (.cons (.str _) (.cons (.int _) .nil))
  | bool h => exact .tup h (.cons (.str _) (.cons (.bl _) .nil))
  | fn h _ i => exact .tup h (.cons (.str _) (.cons (.str _) (.cons i .nil)))
  | app h _ _ i j => exact .tup h (.cons (.str _) (.cons i (.cons j .nil)))
  | lt h _ _ i j => exact .tup h (.cons (.str _) (.cons (.str _) (.cons i (.cons j .nil))))
  | rc h _ _ i j => exact .tup h (.cons (.str _) (.cons (.str _) (.cons i (.cons j .nil))))
  | cond h _ _ _ i j l => exact .tup h (.cons (.str _) (.cons i (.cons j (.cons l .nil))))
  | tup h h2 l1 _ i => exact .tup h (.cons (.str _) (.cons (.lst h2 (datas_dp l1 i)) .nil))
  | part h _ i => exact .tup h (.cons (.str _) (.cons (.int _) (.cons (.int _) (.cons i .nil))))
  | record h h2 l1 l2 l3 f _ i => exact .tup h (.cons (.str _) (.cons (.lst h2 (pairs_dp l1 l2 l3 f i)) .nil))
  | field h _ i => exact .tup h (.cons (.str _) (.cons i (.cons (.str _) .nil)))
  | wth h _ _ i j => exact .tup h (.cons (.str _) (.cons i (.cons (.str _) (.cons j .nil))))
end Vt


set_option Elab.async false
set_option linter.all false
set_option maxRecDepth 100000
set_option maxHeartbeats 4000000
namespace Vt
open PySem PySem.Spec PyProof.Rows L2
/-! ### how long the text of a term is -/
theorem tf_le : ∀ (ts : List Str) (k : Nat) (acc : Str), (textFrom k acc ts).length ≤ acc.length + piled ts
  | [], k, acc => Nat.le_refl _
  | t :: r, k, acc => by
    have h := tf_le r (k + 1) (acc ++ (if k > 0 then ", " else "" : String) ++ t)
    have e : (acc ++ (if k > 0 then ", " else "" : String) ++ t).length ≤ acc.length + 2 + t.length := by
      rw [strLen_append, strLen_append]
      have : ((if k > 0 then ", " else "" : String) : Str).length ≤ 2 := by split <;> decide +kernel
      omega
    rw [piled_cons]
    show (textFrom (k + 1) _ r).length ≤ _
    omega
theorem list_text (ts : List Str) : (listText ts).length ≤ piled ts + 2 := by
  have h := tf_le ts 0 "["
  have e1 : ((("[" : String) : Str)).length = 1 := rfl
  have e2 : ((("]" : String) : Str)).length = 1 := rfl
  unfold listText
  rw [strLen_append, e2]
  omega
theorem name_text {n : Str} (h : isName n) : (reprText n).length ≤ 82 := by
  have := StrLaws.reprText_len n fun c hc => by
    have := h.2.2 c hc
    omega
  have := h.2.1
  omega
/-- a text of at most this many signs, so deep at most -/
structure Tx (d : PyData) (k m : Nat) : Prop where
  sh : d.showable = true
  dp : d.depth ≤ m
  sz : d.shown.length ≤ k
  lay : d.canLay0 = true
theorem Tx.name {n : Str} (h : isName n) : Tx (.str n) 82 0 := ⟨rfl, Nat.le_refl _, name_text h, by simp only [PyData.canLay0]; exact h.ok⟩
/-- many of them: all together, with two signs more for each -/
structure Txs (ds : List PyData) (k m : Nat) : Prop where
  sh : PyData.showableAll ds = true
  dp : PyData.depthAll ds ≤ m
  sz : piled (PyData.shownAll ds) ≤ k
  lay : PyData.canLayAll0 ds = true
theorem Txs.nil {m : Nat} : Txs [] 0 m := ⟨by simp [PyData.showableAll], by simp [PyData.depthAll], by simp [PyData.shownAll, piled], by simp [PyData.canLayAll0]⟩
theorem Txs.cons {d : PyData} {ds : List PyData} {k m k' : Nat} (a : Tx d k m) (b : Txs ds k' m) : Txs (d :: ds) (k + 2 + k') m :=
  ⟨by simp only [PyData.showableAll, a.sh, b.sh, Bool.and_self], by simp only [PyData.depthAll]; have := a.dp; have := b.dp; omega, by simp only [PyData.shownAll, piled_cons]; have := a.sz; have := b.sz; omega, by simp only [PyData.canLayAll0, a.lay, b.lay, Bool.and_self]⟩
theorem Tx.cons {d : PyData} {ds : List PyData} {k m k' : Nat} (a : Tx d k m) (b : Txs ds k' m) : Txs (d :: ds) (k + 2 + k') m := Txs.cons a b
theorem Tx.mono {d : PyData} {k m k' m' : Nat} (a : Tx d k m) (h : k ≤ k') (h2 : m ≤ m') : Tx d k' m' := ⟨a.sh, Nat.le_trans a.dp h2, Nat.le_trans a.sz h, a.lay⟩
theorem Txs.tup {ds : List PyData} {k m : Nat} (a : Txs ds k m) : Tx (.tuple ds) (k + 2) (m + 1) :=
  ⟨by simp only [PyData.showable]; exact a.sh, by simp only [PyData.depth]; have := a.dp; omega, by simp only [PyData.shown]; exact Nat.le_trans (fmt_text _) (Nat.add_le_add_right a.sz 2), by simp only [PyData.canLay0]; exact a.lay⟩
theorem Txs.lst {ds : List PyData} {k m : Nat} (a : Txs ds k m) : Tx (.list ds) (k + 2) (m + 1) :=
  ⟨by simp only [PyData.showable]; exact a.sh, by simp only [PyData.depth]; have := a.dp; omega, by simp only [PyData.shown]; exact Nat.le_trans (list_text _) (Nat.add_le_add_right a.sz 2), by simp only [PyData.canLay0]; exact a.lay⟩
theorem tx_word (w : Str) (h : (reprText w).length ≤ 10 ∧ PyData.strOk w = true) {m : Nat} : Tx (.str w) 10 m := ⟨rfl, Nat.zero_le _, h.1, by simp only [PyData.canLay0]; exact h.2⟩
theorem tx_int {k : Int} (h : -(10 ^ 30) ≤ k ∧ k ≤ 10 ^ 30) {m : Nat} : Tx (.int k) 40 m := by
  have a : k.natAbs < 10 ^ 31 := by omega
  refine ⟨decide_eq_true ?_, Nat.zero_le _, ?_, by simp only [PyData.canLay0]⟩
  · have b : k.natAbs < 2 ^ 110 := Nat.lt_of_lt_of_le a (by decide)
    by_cases z : k.natAbs = 0
    · rw [z]; decide
    · have := (Nat.log2_lt z).mpr b
      omega
  · have := int_text_length_le10 (k := 31) (by decide) a
    simp only [PyData.shown]
    rw [show ((toString k : String) : Str).length = (toString k : String).length from PySem.ofString_length _]
    omega
theorem tx_small {k : Int} (h : 0 ≤ k ∧ k < 10) {m : Nat} : Tx (.int k) 40 m := tx_int (by omega)
theorem datas_tx {m : Nat} : ∀ {ts : List T}, (∀ t ∈ ts, Tx t.data (400 * t.size - 200) m) → Txs (T.datas ts) (400 * T.sizes ts) m
  | [], _ => Txs.nil
  | t :: r, h => by
    have a := h t List.mem_cons_self
    have b := datas_tx fun u hu => h u (List.mem_cons_of_mem _ hu)
    have p : 1 ≤ t.size := by cases t; simp only [T.size]; omega
    have c := Txs.cons a b
    refine ⟨c.sh, c.dp, Nat.le_trans c.sz ?_, c.lay⟩
    simp only [T.sizes]
    omega
theorem pairs_tx {m : Nat} : ∀ {ls : List Str} {ts : List T}, (∀ n ∈ ls, isName n) → ls.length = ts.length → (∀ t ∈ ts, Tx t.data (400 * t.size - 200) m) → Txs (pairs ls (T.datas ts)) (400 * T.sizes ts) (m + 1)
  | [], [], _, _, _ => Txs.nil
  | [], t :: r, _, h, _ => by simp at h
  | n :: ls, [], _, h, _ => by simp at h
  | n :: ls, t :: r, hn, h, f => by
    have a := f t List.mem_cons_self
    have b := pairs_tx (fun u hu => hn u (List.mem_cons_of_mem _ hu)) (by simpa using h) fun u hu => f u (List.mem_cons_of_mem _ hu)
    have p : 1 ≤ t.size := by cases t; simp only [T.size]; omega
    have c := Txs.cons ((Txs.cons ((Tx.name (hn n List.mem_cons_self)).mono (Nat.le_refl _) (Nat.zero_le m)) (Txs.cons a Txs.nil)).tup) b
    refine ⟨c.sh, c.dp, Nat.le_trans c.sz ?_, c.lay⟩
    simp only [T.sizes]
    omega
theorem data_tx : ∀ (n : Nat) (t : T), t.size ≤ n → Wt t → Tx t.data (400 * t.size - 200) (3 * t.deep) := by
  intro n
  induction n with
  | zero =>
    intro t h
    cases t
    simp only [T.size] at h
    omega
  | succ n ih =>
    intro t hs w
    cases t with
    | node h ks =>
      have kid : ∀ k ∈ ks, Tx k.data (400 * k.size - 200) (3 * T.deeps ks) := fun k hk => by
        have h1 := size_kid hk
        have h2 := deep_kid hk
        simp only [T.size] at hs
        exact (ih k (by omega) (w.kid hk)).mono (Nat.le_refl _) (by omega)
      have hd := w.hd
      have all := datas_tx kid
      have nm : ∀ {n : Str} {m : Nat}, isName n → Tx (.str n) 82 m := fun q => (Tx.name q).mono (Nat.le_refl _) (Nat.zero_le _)
      simp only [T.data, T.size, T.deep]
      cases h with
      | var m => exact ((tx_word "var" (by decide +kernel) (m := 0)).cons ((nm hd.2).cons .nil)).tup.mono (by omega) (by omega)
      | int k => exact ((tx_word "int" (by decide +kernel) (m := 0)).cons ((tx_int hd.2).cons .nil)).tup.mono (by omega) (by omega)
      | bool b => exact ((tx_word "bool" (by decide +kernel) (m := 0)).cons ((show Tx (.bool b) 5 0 from ⟨rfl, Nat.le_refl _, by cases b <;> decide +kernel, by simp only [PyData.canLay0]⟩).cons .nil)).tup.mono (by omega) (by omega)
      | tup => exact ((tx_word "tuple" (by decide +kernel)).cons (all.lst.cons .nil)).tup.mono (by omega) (by omega)
      | record ls => exact ((tx_word "record" (by decide +kernel)).cons ((pairs_tx hd.2.2.1 hd.1 kid).lst.cons .nil)).tup.mono (by omega) (by omega)
      | fn m =>
        match ks, hd.1, kid with
        | [t], _, kid => 
          exact (((tx_word "fun" (by decide +kernel)).cons ((nm hd.2).cons ((kid _ (by simp)).cons .nil)))).tup.mono (by simp only [T.sizes]; omega) (by omega)
      | app =>
        match ks, hd, kid with
        | [t, r], _, kid => 
          exact (((tx_word "app" (by decide +kernel)).cons ((kid _ (by simp)).cons ((kid _ (by simp)).cons .nil)))).tup.mono (by simp only [T.sizes]; omega) (by omega)
      | lt m =>
        match ks, hd.1, kid with
        | [t, r], _, kid => 
          exact (((tx_word "let" (by decide +kernel)).cons ((nm hd.2).cons ((kid _ (by simp)).cons ((kid _ (by simp)).cons .nil))))).tup.mono (by simp only [T.sizes]; omega) (by omega)
      | rc m =>
        match ks, hd.1, kid with
        | [t, r], _, kid => 
          exact (((tx_word "rec" (by decide +kernel)).cons ((nm hd.2).cons ((kid _ (by simp)).cons ((kid _ (by simp)).cons .nil))))).tup.mono (by simp only [T.sizes]; omega) (by omega)
      | cond =>
        match ks, hd, kid with
        | [t, r, q], _, kid => 
          exact (((tx_word "if" (by decide +kernel)).cons ((kid _ (by simp)).cons ((kid _ (by simp)).cons ((kid _ (by simp)).cons .nil))))).tup.mono (by simp only [T.sizes]; omega) (by omega)
      | part i z =>
        match ks, hd.1, kid with
        | [t], _, kid => 
          obtain ⟨_, d1, d2, d3, d4⟩ := hd
          exact (((tx_word "part" (by decide +kernel)).cons ((tx_int ⟨by omega, by omega⟩).cons ((tx_int ⟨by omega, by omega⟩).cons ((kid _ (by simp)).cons .nil))))).tup.mono (by simp only [T.sizes]; omega) (by omega)
      | field m =>
        match ks, hd.1, kid with
        | [t], _, kid => 
          exact (((tx_word "field" (by decide +kernel)).cons ((kid _ (by simp)).cons ((nm hd.2).cons .nil)))).tup.mono (by simp only [T.sizes]; omega) (by omega)
      | wth m =>
        match ks, hd.1, kid with
        | [t, r], _, kid => 
          exact (((tx_word "with" (by decide +kernel)).cons ((kid _ (by simp)).cons ((nm hd.2).cons ((kid _ (by simp)).cons .nil))))).tup.mono (by simp only [T.sizes]; omega) (by omega)
mutual
theorem eqv_self : ∀ d : PyData, d.canLay0 = true → PyData.eqv d d = true
  | .none, _ => by simp only [PyData.eqv]
  | .bool b, _ => by simp only [PyData.eqv, beq_self_eq_true]
  | .int i, _ => by simp only [PyData.eqv, beq_self_eq_true]
  | .str x, _ => by simp only [PyData.eqv, beq_self_eq_true]
  | .list xs, h => by simp only [PyData.eqv]; exact eqvs_self xs (by simpa only [PyData.canLay0] using h)
  | .tuple xs, h => by simp only [PyData.eqv]; exact eqvs_self xs (by simpa only [PyData.canLay0] using h)
  | .dict _, h => by simp [PyData.canLay0] at h
theorem eqvs_self : ∀ ds : List PyData, PyData.canLayAll0 ds = true → PyData.eqvAll ds ds = true
  | [], _ => by simp only [PyData.eqvAll]
  | d :: r, h => by
    simp only [PyData.canLayAll0, Bool.and_eq_true] at h
    simp only [PyData.eqvAll, eqv_self d h.1, eqvs_self r h.2, Bool.and_self]
end
theorem term_ne {K : PySem.W.Frag} {H : Hp} {u v : V} {t : T} {Q : VK} (w : Wt t) (hd : t.deep ≤ 20) (a : Tm K H u t) (b : Tm K H v t) (q : Q (.bl false) H) : rNeD K u v H Q := by
  have x := data_tx _ t (Nat.le_refl _) w
  have sh : SeqAt.shaped t.data = true := by
    show (t.data.canLay0 && decide (t.data.depth ≤ 64)) = true
    rw [Bool.and_eq_true]
    exact ⟨x.lay, decide_eq_true (Nat.le_trans x.dp (by omega))⟩
  refine ⟨t.data, t.data, a.dp, b.dp, sh, sh, ?_⟩
  rw [eqv_self _ x.lay]
  exact q
end Vt


set_option Elab.async false
set_option linter.all false
set_option maxRecDepth 100000
set_option maxHeartbeats 4000000
namespace Vt
open PySem PySem.Spec PyProof.Rows L2
/-! ### a def that wants to know that no text of a value is being made around it -/
structure FnG (P : Program) (w : World) (K : PySem.W.Frag) (mg : Str → Option Value) (base : Heap) (CX : CXT) (k : Nat) (f : Addr) (fd : FuncData) (ps : List Str) (sp : Sp) : Prop where
  size : ∀ vs H Q E, sp vs H Q E → vs.length = ps.length
  go : ∀ (A : Around) (outer : List Env) (s : Shared) (H : Hp) (us : List Value) (vs : List V) (Q : VK) (E : XK) (args : Args), A.guards = some [] → Room k A → Env0 P w K mg base A outer s H →
    BindsTo s fd args (ps.zip us) → Vals vs us → sp vs H Q E → codeAny (model P w) A (.call (.ref f) args) (CR CX outer P w H s Q E) s
section
variable {P : Program} {w : World} {K : PySem.W.Frag} {mg : Str → Option Value} {base : Heap}
theorem fnG {x : Str} {st : Stmt} {f : Addr} {fd : FuncData} {N ps : List Str} {k : Nat} {sp : Sp} (F : Fun K x x st f fd) (S : FnScope N ps (defScope st)) (size : ∀ vs H Q E, sp vs H Q E → vs.length = ps.length)
    (bd : ∀ (cdv : Value) (A : Around) (outer : List Env) (s : Shared) (H : Hp) (vs : List V) (Q : VK) (E : XK), (A.deeper (envOfC x (defScope st) s.heap.objs.size f cdv)).guards = some [] → Room k (A.deeper (envOfC x (defScope st) s.heap.objs.size f cdv)) → sp vs H Q E →
      ∃ t, PSs (cxOf CX0 P w K mg base N x (defScope st) f cdv A outer s H E).nox (defBody st) t ∧ t { nx := fun _ H' => Q .non H', rt := Q } (start N vs) H) : FnG P w K mg base CX0 (k + 1) f fd ps sp := by
  obtain ⟨oc, od, kV, doc, pm, an, cdv, ct, osl, rfl, lk, cdK⟩ := F.ex
  refine ⟨size, fun A outer s H us vs Q E args gd room e0 bnd vals wish => ?_⟩
  have old : ∀ b o, base.get? b = some o → s.heap.get? b = some o := fun b o e => (e0.bs b o e).1
  have inK := e0.mod.kin.keeps old
  have kinds : ∀ y ∈ ps.zip us, (defScope st).names.lookup y.1 = some .local ∨ ((defScope st).names.lookup y.1 = some .cell ∧ ((cellsFrom (s.heap.objs.size + 1) (defScope st).names []).lookup y.1).isSome = true) := by
    intro y hy
    cases S.par y.1 (List.of_mem_zip hy).1 with
    | inl q => exact .inl q
    | inr q => exact .inr ⟨q, PySem.W.cellsFrom_some _ _ _ (.inl q)⟩
  obtain ⟨t, hp, ht⟩ := bd cdv A outer s H vs Q E gd (room.deeper _) wish
  refine codeAny_call_function room.depth (inK _ _ lk) rfl S.co S.gen rfl (PySem.W.codeRec_of inK cdK) (bnd _ _ _ _ (wpAny_newFunctionEnv_cells S.kind kinds fun env henv s1 call => ?_))
  subst henv
  refine ⟨(e0.mod.nolimit.keeps old).keeps call.toInCall.keep, codeAny_func (wpAny_mono (hp.nox.run [] s1 (start N vs) H _ (inv_start S room.hd e0 (size _ _ _ _ wish) vals call) ht) ?_ fun _ _ z => z)⟩
  intro fl s' out
  cases fl with
  | next =>
    obtain ⟨_, H', J, q⟩ := out
    exact ⟨V.non, H', J.os, J.bare, J.base, J.hok, (rfl : RelV V.non Value.none), q⟩
  | ret u =>
    obtain ⟨v, _, H', J, rv, q⟩ := out
    exact ⟨v, H', J.os, J.bare, J.base, J.hok, rv, q⟩
  | brk =>
    obtain ⟨_, _, _, q⟩ := out
    cases q
  | cont =>
    obtain ⟨_, _, _, q⟩ := out
    cases q
end
section
variable {X : Cx} {CX : CXT} {k : Nat} {f : Addr} {fd : FuncData} {ps : List Str} {sp : Sp} {E : XK} {x : Str} {p pos : Pos} {e : Expr} {es : List Expr} {t : TA}
/-- the call of such a def -/
theorem pe_callG (F : FnG X.prog X.w X.K X.mg X.base CX k f fd ps sp) (hgd : X.A.guards = some []) (hr : Room k X.A) (hg : Gl X x) (hm : X.mg x = some (.ref f)) (hk : PySem.W.keepIn X.K (.ref f) = true) (hb : Binds X.K fd ps []) (hx : Passes CX X E)
    (ha : PA X (e :: es) t) (hdb : (x == ("__debug__" : Str)) = false := by decide) (he : starEach (e :: es) X.env = (false, eval e X.env) :: starEach es X.env := by rfl) (hpl : (backTo pos (starEach es X.env)).any (·.1) = false := by rfl) :
    PE X (.Call (.Name x p) (e :: es) [] pos) (tCall sp [] E t) := by
  refine ⟨fun pins s σ H Q I h => wpAny_Call_Name_kw (ld_glob I hg hm (PySem.W.callWith_K (h₀ := X.base) I.ok.mod.kin hk (thn (ha.run pos pins s σ H _ I h) fun us s1 out => ?_) he hpl) hdb)⟩
  obtain ⟨vs, H1, I1, r, q⟩ := out
  rw [List.append_nil] at q
  have b := hb s1 us I1.kIn (by rw [List.append_nil, ← r.length]; exact F.size _ _ _ _ q)
  rw [List.append_nil] at b
  refine ⟨I1.kIn, wpAny_call (codeAny_mono (F.go X.A X.stack s1 H1 us vs Q E ⟨us, []⟩ hgd hr I1.env0 b r q) fun r s' out => ?_)⟩
  match r, out with
  | .error e, z => exact hx pins σ H1 s1 e s' I1 z
  | .ok (.ret u), z => exact I1.after z
  | .ok .next, z => exact z.elim
  | .ok .brk, z => exact z.elim
  | .ok .cont, z => exact z.elim
end
/-! ### the end: the law is called with the script -/
/-- what is tracked of the script: nothing where the module holds it -/
def scr (K : PySem.W.Frag) (a : Addr) (o : Obj) (ns : List Int) : Hp := fun b => if b = a ∧ K.lookup a = none then some (.frz o (.lst (ns.map V.int))) else none
theorem scr_some {K : PySem.W.Frag} {a b : Addr} {o : Obj} {ns : List Int} {u : HO} (h : scr K a o ns b = some u) : b = a ∧ K.lookup a = none ∧ u = .frz o (.lst (ns.map V.int)) := by
  by_cases c : b = a ∧ K.lookup a = none
  · have h' := (if_pos c).symm.trans h
    cases h'
    exact ⟨c.1, c.2, rfl⟩
  · have h' := (if_neg c).symm.trans h
    cases h'
theorem scr_none {K : PySem.W.Frag} {a b : Addr} {o : Obj} {ns : List Int} (h : b ≠ a ∨ K.lookup a ≠ none) : scr K a o ns b = none := if_neg fun ⟨c1, c2⟩ => h.elim (fun z => z c1) fun z => z c2
theorem callG {P : Program} {w : World} {K : PySem.W.Frag} {mg mb : Str → Option Value} {k : Nat} {fa a : Addr} {fd : FuncData} {x : Str} {sp : Sp} {s₁ : Shared} {vs : List Value} {ns : List Int} (KX : K.In s₁.heap) (glob : s₁.heap.Ns mainGlobals mg) (blt : s₁.heap.Ns builtinsNs mb)
    (boot : ∀ x : Str, x ≠ "__name__" → mb x = bootBuiltins x) (lim : s₁.heap.NoLimit) (gens : s₁.gens = #[]) (obj : s₁.heap.get? a = some { cls := .type "list", data := .seq vs.toArray }) (intV : IntsAre vs ns) (len : ns.length ≤ sizeLine) (room : Room k callerA)
    (F : ∀ base : Heap, K.In base → base.Ns mainGlobals mg → FnG P w K mg base CX0 k fa fd [x] sp) (bnd : ∀ (s : Shared) (u : Value), BindsTo s fd ⟨[u], []⟩ [(x, u)])
    (wish : ∀ H : Hp, Only H → SqL K H a (ns.map V.int) → sp [.ref a] H (fun v _ => v = .bl true) fun _ _ _ => False) :
    codeAny (model P w) callerA (.call (.ref fa) ⟨[.ref a], []⟩) (fun r s' => r = .ok (.ret (.bool true)) ∧ OldK s₁.heap s'.heap ∧ s'.os = s₁.os ∧ AllBare s'.gens) s₁ := by
  have numV := vals_ints intV
  have lenV : (ns.map V.int).length ≤ sizeLine := by rw [List.length_map]; exact len
  have getH : ∀ {b : Addr} {u : HO}, scr K a _ ns b = some u → b = a ∧ K.lookup a = none ∧ u = .frz { cls := .type "list", data := .seq vs.toArray } (.lst (ns.map V.int)) := fun h => scr_some h
  have only : Only (scr K a { cls := .type "list", data := .seq vs.toArray } ns) := fun b => by
    cases q : scr K a { cls := .type "list", data := .seq vs.toArray } ns b with
    | none => exact .inl rfl
    | some u => obtain ⟨_, _, e⟩ := getH q; exact .inr ⟨_, _, by rw [e]⟩
  have hok : HOk P w (scr K a { cls := .type "list", data := .seq vs.toArray } ns) s₁.heap := fun b u q => by
    obtain ⟨rfl, _, rfl⟩ := getH q
    exact ⟨obj, lenV, vs, _, numV, obj⟩
  have seq : SqL K (scr K a { cls := .type "list", data := .seq vs.toArray } ns) a (ns.map V.int) := by
    cases q : K.lookup a with
    | none => exact .inl (.inr ⟨_, if_pos ⟨rfl, q⟩⟩)
    | some o =>
      have e := KX a o q
      rw [obj] at e
      cases e
      exact .inr ⟨_, vs.toArray, _, q, rfl, rfl, rfl, by rw [List.size_toArray, ← numV.length]; exact lenV, by simpa using numV⟩
  generalize scr K a { cls := .type "list", data := .seq vs.toArray } ns = H at *
  have free : ∀ {b : Addr} {o : Obj} {es : Array DictEntry} {ep : Nat}, s₁.heap.get? b = some o → o.data = .dict es ep → H b = none := fun {b o es ep} e d => by
    cases q : H b with
    | none => rfl
    | some u =>
      obtain ⟨rfl, _, _⟩ := getH q
      rw [obj] at e
      cases e
      cases (show Data.seq vs.toArray _ = Data.dict es ep from d)
  have spaces : ∀ {b : Addr} {m : Str → Option Value}, s₁.heap.Ns b m → (hidT s₁.heap H).Ns b m := fun {b m} ⟨o, es, ep, e, d, r⟩ => ⟨o, es, ep, hidT_get e (free e d), d, r⟩
  have inB : K.In (hidT s₁.heap H) := fun b o e => hidT_get (KX b o e) (by
    cases q : H b with
    | none => rfl
    | some u =>
      obtain ⟨rfl, z, _⟩ := getH q
      rw [z] at e
      cases e)
  have md : Mod K mg (hidT s₁.heap H) := ⟨inB, spaces glob, ⟨mb, spaces blt, boot⟩, (fun ⟨mc, h1, h2⟩ => ⟨mc, spaces h1, h2⟩) lim⟩
  have e0 : Env0 P w K mg (hidT s₁.heap H) callerA [] s₁ H := ⟨rfl, md, fun b o e => of_hidT e, Nat.le_of_eq (hidT_size _ _), trivial, fun b hb => (nomatch (show b ∈ ([] : List Addr) from hb)), hok, .of_eq gens⟩
  refine codeAny_mono ((F _ inB (spaces glob)).go callerA [] s₁ H [.ref a] [.ref a] _ _ ⟨[.ref a], []⟩ rfl room e0 (bnd s₁ (.ref a)) (.cons rfl .nil) (wish H only seq)) fun r s' out => ?_
  match r, out with
  | .error e, z => exact z.elim
  | .ok .next, z => exact z.elim
  | .ok .brk, z => exact z.elim
  | .ok .cont, z => exact z.elim
  | .ok (.ret u), ⟨v, H', os, bare, un, hok', rv, q⟩ =>
    cases (show v = .bl true from q)
    obtain rfl : u = Value.bool true := rv
    refine ⟨rfl, OldK.of_keep fun b o e => ?_, os, bare⟩
    cases q : H b with
    | none => exact un.keep b o e q (fun z => nomatch (show b ∈ ([] : List Addr) from z)) (by simp)
    | some u =>
      obtain ⟨rfl, _, rfl⟩ := getH q
      have e2 := (hok' b _ (un.frzs b _ _ q)).1
      rw [obj] at e
      cases e
      exact e2
theorem walkG {l : PySem.W.OpenLaw} {n k : Nat} {q : Program} {loose : List Str} {XP : (Str → Option Value) → Heap → Prop} {YP : World → Heap → Prop} {d : DefRec} {K : Params → PySem.W.Frag} {sp : PySem.W.Frag → Sp} {x : Str} (hn : l.most = some n) (hn2 : n ≤ sizeLine) (hdf : d.params.defaults = []) (hr : Room k callerA)
    (hY : ∀ (w : World) (h : Heap), YP w h → (K w.params).In h)
    (F : ∀ (w : World) (mg : Str → Option Value) (fa : Addr) (h : Heap), (K w.params).In h → h.Ns mainGlobals mg → mg d.name = some (.ref fa) →
      ∃ fd : FuncData, (∀ (s : Shared) (u : Value), BindsTo s fd ⟨[u], []⟩ [(x, u)]) ∧ ∀ base : Heap, (K w.params).In base → base.Ns mainGlobals mg → FnG l.prog w (K w.params) mg base CX0 k fa fd [x] (sp (K w.params)))
    (hsp : ∀ (K : PySem.W.Frag) (H : Hp) (a : Addr) (ns : List Int), ns.length ≤ n → Only H → SqL K H a (ns.map V.int) → sp K [.ref a] H (fun v _ => v = .bl true) fun _ _ _ => False) :
    PySem.W.WalkO q loose XP YP l.row.toRowW d [] (fun f vs => PySem.call f vs) :=
  Att.attach_call hn hdf fun w s₀ s₁ mg mb fa o pm cd doc a vs ns G Y ho hd hcd hmg hobj hints hlen hg =>
    (fun ⟨fd, hb, hF⟩ => callG (hY w _ Y) G.T.g G.T.b G.T.builtins G.T.nolimit hg hobj hints (Nat.le_trans hlen hn2) hr hF hb fun H hO hS => hsp _ H a ns hlen hO hS) (F w mg fa _ (hY w _ Y) G.T.g hmg)
end Vt


set_option Elab.async false
set_option linter.all false
set_option maxRecDepth 100000
set_option maxHeartbeats 4000000
namespace Vt
open PySem PySem.Spec PyProof.Rows L2
/-! ### a try whose first clause, one with a name, always takes the exception; other clauses stand behind it -/
/-- behind the suite the clause's name means nothing -/
def bare (i : Nat) (D : Ends) : Ends := { nx := fun (σ : L2.St) H => D.nx (σ.set i none) H, rt := D.rt, bk := fun (σ : L2.St) H => D.bk (σ.set i none) H, ct := fun (σ : L2.St) H => D.ct (σ.set i none) H }
def wFirst (K : PySem.W.Frag) (c : Value) (i : Nat) (ts : Addr → Value → Option Addr → TS) (D : Ends) : WX := fun (cls : Value) (d : Option Addr) (σ : L2.St) (H : Hp) =>
  PySem.W.exmOne K cls c = some true ∧ ∀ a, H a = none → ts a cls d (bare i D) (σ.set i (some (.ref a))) H
section
variable {X : Cx} {x n : Str} {c : Value} {i : Nat} {body suite : List Stmt} {b₀ : Stmt} {np pos pos' : Pos} {tb : WX → TS} {ts : Addr → Value → Option Addr → TS} {hds : List ExceptHandler}
theorem ps_try_first (stk : X.stack = X.env :: X.outer) (fr : X.env.frame = some X.env.locals) (nd : X.N.Nodup) (hi : X.N[i]? = some n) (loc : X.env.kindOf n = some .local) (cl : Names X x c)
    (hb : ∀ (W : WX) (pn : List (Addr × Obj)) (xe : Value → Shared → Prop), Takes (X.tr pn xe) W → PassesOwn (model X.prog X.w) X.A X.env xe → PSs (X.tr pn xe) body (tb W))
    (su : ∀ (a : Addr) (oe : Obj) (cls : Value) (d : Option Addr) (pn : List (Addr × Obj)), Zc cls d oe → (∃ vs, oe.data = .fields vs) → PSs (X.suite a ((a, oe) :: pn)) (b₀ :: suite) (ts a cls d)) :
    PS X (.Try body (.ExceptHandler (some (.Name x np)) (some n) (b₀ :: suite) pos' :: hds) [] [] pos) (fun D σ H => tb (wFirst X.K c i ts D) D σ H) := by
  refine ⟨fun pins s σ H D I h => wpAny_Try_except ?_⟩
  have ok := I.ok
  have frames : X.A.frames = some (X.env :: X.outer) := by rw [ok.frames, stk]
  refine wpAny_mono ((hb (wFirst X.K c i ts D) (X.pn ++ pins) (fun e s₁ => wpAny (model X.prog X.w) X.A (noteFrame e X.env) (fun _ s₂ => wpAny (model X.prog X.w) X.A (setFlight e none) (fun _ s₃ => wpAny (model X.prog X.w) X.A (handleBy e X.env (.ExceptHandler (some (.Name x np)) (some n) (b₀ :: suite) pos' :: hds)) (SP X pins D) X.xe s₃) X.xe s₂) X.xe s₁)
    (fun u s' caught => ?_) PassesOwn.looking).run [] s σ H D (I.toTry _) h) (fun f s1 out => ?_) fun _ _ z => z
  · obtain ⟨a, B, sI, pins', σ', H', cls, d, rfl, J0, nb, up, sky, na, os, ag, takes, go⟩ := caught
    have J := J0.ofTry ok
    rw [stk] at sky
    refine Sky.land Zc.steady frames fr sky fun h3 fl3 up3 => ?_
    have J3 : Inv X pins σ' H' { s' with heap := h3 } := J.landed nb fl3.1 (up.trans up3) os ag
    obtain ⟨o3, vs3, at3, z3, dat3⟩ := fl3.there
    have out : a ∉ frs (X.env :: X.outer) := fun hm => by
      obtain ⟨_, o', e', nof⟩ := fl3.2.2.1.mem hm
      rw [at3] at e'
      cases e'
      exact nof _ dat3
    have outL : a ≠ X.env.locals := fun z => out (List.mem_filterMap.mpr ⟨X.env, List.mem_cons_self, by rw [fr, z]⟩)
    have outF : a ∉ X.fs := fun hm => (fun ⟨e, he, q⟩ => out (List.mem_filterMap.mpr ⟨e, List.mem_cons_of_mem _ he, q⟩)) (List.mem_filterMap.mp hm)
    have S3 := J3.suite at3 dat3 na outL outF
    have kind : PySem.W.Looks (model X.prog X.w) h3 (typeOf (.ref a)) cls := fun A Q E s k q => wpAny_typeOf_ref (k _ _ at3) (by rw [z3.1]; exact q)
    have fits := PySem.W.exm_one (M := model X.prog X.w) J3.kIn kind takes
    have name : ∀ {Q E : Value → Shared → Prop}, Q c { s' with heap := h3 } → wpAny (model X.prog X.w) (X.A.mark (some (.ref a))) (eval (.Name x np) X.env) Q E { s' with heap := h3 } := fun {Q E} q => by
      rcases cl with ⟨hg, hd, hm | ⟨hm, hv, hnn⟩⟩
      · exact ld_glob (X := X.suite a ((a, o3) :: (X.pn ++ pins))) S3 hg hm q hd
      · exact ld_blt (X := X.suite a ((a, o3) :: (X.pn ++ pins))) S3 hg hm hv q hnn hd
    refine wpAny_handleBy_cons (codeAny_handlers_test (name (fits.here (codeAny_handlers_suite_as ?_)))) (fun q => nomatch q)
    refine HandSPX.lands_againZ fl3 fun h4 fl4 up4 => ?_
    have J4 : Inv X pins σ' H' { s' with heap := h4 } := J.landed nb fl4.1 ((up.trans up3).trans up4) os ag
    obtain ⟨o4, vs4, at4, z4, dat4⟩ := fl4.there
    refine store_ok (X := X.suite a ((a, o4) :: (X.pn ++ pins))) (v := .ref a) (J4.suite at4 dat4 na outL outF) nd hi (.inl loc) rfl (fun s5 S5 => ?_) (.inr loc)
    refine wpAny_mono ((su a o4 cls d (X.pn ++ pins) z4 ⟨_, dat4⟩).run [] s5 _ H' _ S5 (go a na)) (fun f s6 out6 => ?_) fun _ _ z => z.elim
    match f, out6 with
    | .next, ⟨_, _, S6, q6⟩ => exact gone_ok (S6.unsuite ok) nd hi loc fun s7 J7 => ⟨_, _, J7, q6⟩
    | .brk, ⟨_, _, S6, q6⟩ => exact gone_ok (S6.unsuite ok) nd hi loc fun s7 J7 => ⟨_, _, J7, q6⟩
    | .cont, ⟨_, _, S6, q6⟩ => exact gone_ok (S6.unsuite ok) nd hi loc fun s7 J7 => ⟨_, _, J7, q6⟩
    | .ret u, ⟨_, _, _, S6, r6, q6⟩ => exact gone_ok (S6.unsuite ok) nd hi loc fun s7 J7 => ⟨_, _, _, J7, r6, q6⟩
  · match f, out with
    | .next, ⟨_, _, J, q⟩ => exact wpAny_execs_nil ⟨_, _, J.ofTry ok, q⟩
    | .brk, ⟨_, _, J, q⟩ => exact ⟨_, _, J.ofTry ok, q⟩
    | .cont, ⟨_, _, J, q⟩ => exact ⟨_, _, J.ofTry ok, q⟩
    | .ret u, ⟨_, _, _, J, r, q⟩ => exact ⟨_, _, _, J.ofTry ok, r, q⟩
end
end Vt


set_option Elab.async false
set_option linter.all false
set_option maxRecDepth 100000
set_option maxHeartbeats 4000000
namespace Vt
open PySem PySem.Spec PyProof.Rows L2
open PySem.SeqAt
/-! ### a tuple is no dict -/
theorem tup_declines_dict (l b : Addr) (its : Array Value) (n : Nat) (dd dd2 : Option Addr) (sl sl2 : Array (Option Value)) (es : Array DictEntry) (ep : Nat) :
    Meets (Builtin.«tuple.__eq__» ⟨[.ref l, .ref b], []⟩) (fun _ R s => s.heap.get? l = some { cls := .type "tuple", dict := dd, data := .seq its n, slots := sl } ∧ s.heap.get? b = some { cls := .type "dict", dict := dd2, data := .dict es ep, slots := sl2 } ∧ R (.ok (.ret .notImplemented)) s) :=
  .of_wp fun prog w A R s h => by
    obtain ⟨hp, g, d, tk, os⟩ := s
    obtain ⟨hl, hb, h⟩ := h
    have f1 := PySem.F.sub_dict_tuple
    wp_walk using wpAny_loadPart' hl, wpAny_loadPart' hb
    exact ⟨_, rfl, h⟩
theorem dict_declines_tup (l b : Addr) (its : Array Value) (n : Nat) (dd dd2 : Option Addr) (sl sl2 : Array (Option Value)) (es : Array DictEntry) (ep : Nat) :
    Meets (Builtin.«dict.__eq__» ⟨[.ref b, .ref l], []⟩) (fun _ R s => s.heap.get? l = some { cls := .type "tuple", dict := dd, data := .seq its n, slots := sl } ∧ s.heap.get? b = some { cls := .type "dict", dict := dd2, data := .dict es ep, slots := sl2 } ∧ R (.ok (.ret .notImplemented)) s) :=
  .of_wp fun prog w A R s h => by
    obtain ⟨hp, g, d, tk, os⟩ := s
    obtain ⟨hl, hb, h⟩ := h
    have f1 := PySem.F.sub_tuple_dict
    wp_walk using wpAny_loadPart' hl, wpAny_loadPart' hb
    exact ⟨_, rfl, h⟩
section
variable {A : Around} {s : Shared}
theorem eq_tup_dict {l b : Addr} {its : Array Value} {o2 : Obj} {es : Array DictEntry} {ep : Nat} (hl : s.heap.IsTuple l its) (hb : s.heap.get? b = some o2) (hc : o2.cls = .type "dict") (hd : o2.data = .dict es ep) (hu : A.units < cLine) : EqAt A s (.ref l) (.ref b) false := by
  obtain ⟨⟨cls, dd, data, sl⟩, ho, k1, n, k2⟩ := id hl
  obtain ⟨cls2, dd2, data2, sl2⟩ := o2
  simp only at k1 k2 hc hd
  subst k1 k2 hc hd
  have ne : l ≠ b := fun e => by
    rw [e, hb] at ho
    exact absurd (Obj.mk.inj (Option.some.inj ho)).1 (by simp)
  refine .of_refs ne fun prog w E Q h => ?_
  refine rc_eq_decline_or (k := false) ⟨_, ho, rfl⟩ ⟨_, hb, rfl⟩ (by decide) PySem.F.sub_dict_tuple PySem.F.slot_tuple_eq PySem.F.slot_dict_eq_refl (fun _ hq => ?_) (fun _ hq => ?_) (fun _ hq => wpAny_isSame_ref_other' ne ho hb (by simp) hq) (.inr hu) h
  · exact call_meets PySem.F.slot_tuple_eq ⟨_, ho, rfl⟩ PySem.F.entry_tuple_eq (PySem.F.args_tuple_eq_2 _ _) (tup_declines_dict l b its n dd dd2 sl sl2 es ep) ⟨ho, hb, hq⟩
  · exact call_meets PySem.F.slot_dict_eq_refl ⟨_, hb, rfl⟩ PySem.F.entry_dict_eq (PySem.F.args_dict_eq_2 _ _) (dict_declines_tup l b its n dd dd2 sl sl2 es ep) ⟨ho, hb, hq⟩
end
/-! ### values as they are told of: data, and the dict that is empty -/
def Dq (K : PySem.W.Frag) (H : Hp) (v : V) (d : PyData) : Prop := Dp K H v d ∨ ∃ a, v = .ref a ∧ H a = some (.dK []) ∧ d = .dict []
mutual
theorem noDict {K : PySem.W.Frag} {H : Hp} : ∀ {v : V} {d : PyData}, Dp K H v d → d.hasDict = false
  | _, _, .non => rfl
  | _, _, .bl _ => rfl
  | _, _, .int _ => rfl
  | _, _, .str _ => rfl
  | _, _, .lst _ h => by simp only [PyData.hasDict]; exact noDicts h
  | _, _, .tup _ h => by simp only [PyData.hasDict]; exact noDicts h
theorem noDicts {K : PySem.W.Frag} {H : Hp} : ∀ {vs : List V} {ds : List PyData}, DpAll K H vs ds → PyData.hasDictAll ds = false
  | _, _, .nil => by simp only [PyData.hasDictAll]
  | _, _, .cons h1 h2 => by simp only [PyData.hasDictAll, noDict h1, noDicts h2, Bool.or_false]
end
section
variable {X : Cx} {pins : List (Addr × Obj)} {σ : L2.St} {H : Hp} {s : Shared}
theorem dk_nil {P : Program} {w : World} {h : Heap} {a : Addr} (x : ObjOk P w H h a (.dK [])) : a ≠ sysModules ∧ ∃ o es ep, h.get? a = some o ∧ o.cls = .type "dict" ∧ o.data = .dict es ep ∧ es.toList = [] := by
  obtain ⟨_, ne, vs, kv, o, es, ep, e, ex, d, _, l, _⟩ := x
  cases kv
  refine ⟨fun q => by rw [q] at ne; simp at ne, o, es, ep, e, ex.1, d, ?_⟩
  generalize es.toList = ls at l
  cases l
  rfl
theorem Dq.reads (I : Inv X pins σ H s) {d : PyData} {v : V} {u : Value} (h : Dq X.K H v d) (r : RelV v u) : ∃ as, Reads s.heap u d as ∧ (d.hasDict = true → sysModules ∉ as) := by
  rcases h with h | ⟨a, rfl, ha, rfl⟩
  · obtain ⟨as, q⟩ := Dp.reads I d v u h r
    exact ⟨as, q, fun z => by rw [noDict h] at z; cases z⟩
  · cases r
    obtain ⟨ne, o, es, ep, e, c, dt, l⟩ := dk_nil (I.hok a _ ha)
    have q : Reads s.heap (.ref a) (.dict []) (a :: [] ++ []) := .dict e c dt (by rw [l]; exact .nil) (by rw [l]; exact .nil)
    exact ⟨_, q, fun _ z => by simp at z; exact ne z.symm⟩
/-- repr(v), where no text is under way -/
def rRepr (K : PySem.W.Frag) : List V → Hp → VK → Prop := fun xs H Q => ∃ v d, xs = [v] ∧ Dq K H v d ∧ d.showable = true ∧ d.depth ≤ 60 ∧ d.shown.length ≤ sizeLine ∧ Q (.str d.shown) H
theorem call_reprG (gd : X.A.guards = some []) (hu : X.A.units + 64 < cLine) : CallR X (.builtin "repr") (rRepr X.K) := by
  intro pins s σ H xs us Q I r h
  obtain ⟨v, d, rfl, hd, sh, dp, sz, q⟩ := h
  obtain ⟨u, rfl, rv⟩ := vals1 r
  obtain ⟨as, rd, nm⟩ := Dq.reads I hd rv
  have at_ : ∀ (h' : Heap) (t tk : Tok), (∀ b o, s.heap.get? b = some o → h'.get? b = some o) → EP X pins σ Q (.str d.shown t) { s with heap := h', toks := tk } := fun h' t tk k => ⟨.str d.shown, H, I.kept (t' := tk) k, ⟨t, rfl⟩, q⟩
  cases rd with
  | none => exact PySem.P.repr_of_none (at_ s.heap _ _ fun _ _ e => e)
  | bool b => exact PySem.P.repr_of_bool (at_ s.heap _ _ fun _ _ e => e)
  | int i t => exact PySem.P.repr_of_int (of_decide_eq_true sh) (at_ s.heap _ _ fun _ _ e => e)
  | str x t => exact PySem.P.repr_of_str (at_ s.heap _ _ fun _ _ e => e) sz
  | list h1 h2 h3 h4 => exact repr_of_reads' (.list h1 h2 h3 h4) sh nm gd (by omega) (fun _ _ e => e) at_ sz
  | tuple h1 h2 h3 h4 => exact repr_of_reads' (.tuple h1 h2 h3 h4) sh nm gd (by omega) (fun _ _ e => e) at_ sz
  | dict h1 h2 h3 h4 h5 => exact repr_of_reads' (.dict h1 h2 h3 h4 h5) sh nm gd (by omega) (fun _ _ e => e) at_ sz
theorem vals_mem {xs : List V} {us : List Value} {y : Value} (r : Vals xs us) : y ∈ us → ∃ v ∈ xs, RelV v y := by
  induction r with
  | nil => exact fun h => nomatch h
  | cons r1 _ ih =>
    intro h
    rcases List.mem_cons.mp h with e | h
    · exact ⟨_, List.mem_cons_self, by rw [e]; exact r1⟩
    · obtain ⟨v, hv, r⟩ := ih h
      exact ⟨v, List.mem_cons_of_mem _ hv, r⟩
/-- x not in l, l a list: of data; x the empty dict: of tuples -/
def rNotInQ (K : PySem.W.Frag) : R2 := fun x y H Q => rNotInD K x y H Q ∨
  ∃ (a l : Addr) (xs : List V), x = .ref a ∧ y = .ref l ∧ H a = some (.dK []) ∧ SqL K H l xs ∧ (∀ v ∈ xs, ∃ (b : Addr) (ts : List V), v = .ref b ∧ SqT K H b ts) ∧ Q (.bl true) H
theorem op_notInQ (hu : X.A.units + 65 < cLine) : OpR X (compareOp .NotIn) (rNotInQ X.K) := by
  intro pins s σ H x y v u Q I rx ry h
  rcases h with h | ⟨a, l, xs, rfl, rfl, ha, hl, hx, q⟩
  · exact op_notInD hu pins s σ H x y v u Q I rx ry h
  · cases rx
    cases ry
    obtain ⟨ne, o, es, ep, e, c, dt, _⟩ := dk_nil (I.hok a _ ha)
    obtain ⟨its, rv, hls, _⟩ := I.list hl
    refine notIn_listAt (fun _ => false) hls.isList (fun y hy => ?_) ⟨.bl true, H, I, by show Value.bool _ = Value.bool _; simp, q⟩
    obtain ⟨v, hv, r⟩ := vals_mem rv (show y ∈ its by simpa using hy)
    obtain ⟨b, ts, rfl, ht⟩ := hx v hv
    cases r
    obtain ⟨its2, _, hts, _⟩ := I.tuple ht
    exact eq_tup_dict hts e c dt (by show X.A.units + 1 < cLine; omega)
end
end Vt


set_option Elab.async false
set_option linter.all false
set_option maxRecDepth 100000
set_option maxHeartbeats 4000000

namespace Vt
open PySem PySem.Spec PyProof.Rows L2
/-- the term at a path -/
def T.at : T → List Nat → Option T
  | t, [] => some t
  | .node h ks, i :: r => match ks[i]? with
    | some k => k.at r
    | none => none
/-- what is asked of a term in the heap -/
structure Asked (K : PySem.W.Frag) (G0 H : Hp) (v : V) (t : T) : Prop where
  sm : Same G0 H
  tm : Tm K G0 v t
  wt : Wt t
  sz : t.size ≤ 400
  dp : t.deep ≤ 100
mutual
theorem dp_same {K : PySem.W.Frag} {H H' : Hp} (s : Same H H') : ∀ {v : V} {d : PyData}, Dp K H v d → Dp K H' v d
  | _, _, .non => .non
  | _, _, .bl b => .bl b
  | _, _, .int i => .int i
  | _, _, .str x => .str x
  | _, _, .lst h1 h2 => .lst (s.seq h1) (dps_same s h2)
  | _, _, .tup h1 h2 => .tup (Same.tupS s h1) (dps_same s h2)
theorem dps_same {K : PySem.W.Frag} {H H' : Hp} (s : Same H H') : ∀ {vs : List V} {ds : List PyData}, DpAll K H vs ds → DpAll K H' vs ds
  | _, _, .nil => .nil
  | _, _, .cons h1 h2 => .cons (dp_same s h1) (dps_same s h2)
end
theorem rowsL_kid (p : List Nat) (r : List Nat × T) : ∀ (ks : List T) (i : Nat), r ∈ T.rowsL ks p i → ∃ (j : Nat) (k : T), ks[j]? = some k ∧ r ∈ k.rows (p ++ [i + j])
  | [], i, h => by simp [T.rowsL] at h
  | t :: ks, i, h => by
    simp only [T.rowsL, List.mem_append] at h
    rcases h with h | h
    · exact ⟨0, t, rfl, h⟩
    · obtain ⟨j, k, e, m⟩ := rowsL_kid p r ks (i + 1) h
      exact ⟨j + 1, k, by simpa using e, by rw [show i + (j + 1) = i + 1 + j by omega]; exact m⟩
/-- f(k = v, ..), nothing by place -/
def tKw (m : Nat) (sp : Sp) (gV : List V → List V → List V) (E : XK) (tk : TA) : TE := fun σ H Q => tk σ H fun zs H2 => zs.length = m ∧ sp (gV [] zs) H2 Q E
section
variable {X : Cx} {CX : CXT} {k : Nat} {f : Addr} {fd : FuncData} {ps ks : List Str} {sp : Sp} {E : XK} {x : Str} {p pos : Pos} {kws : List Keyword} {tk : TA} {g : List Value → List Value → List Value} {gV : List V → List V → List V}
theorem pe_kw0 (F : FnOk X.prog X.w X.K X.mg X.base CX k f fd ps sp) (hr : Room k X.A) (hg : Gl X x) (hm : X.mg x = some (.ref f)) (hk : PySem.W.keepIn X.K (.ref f) = true) (hb : KBn X.K fd ps 0 ks g gV) (hx : Passes CX X E) (hkw : PK X kws tk)
    (hall : (backToKw pos (keywordEach kws X.env)).all (·.1.isSome) = true := by rfl) (hks : (backToKw pos (keywordEach kws X.env)).filterMap (·.1) = ks := by rfl) (hdb : (x == ("__debug__" : Str)) = false := by decide)
    (hpl : ((backTo pos (starEach [] X.env)).any (·.1) || (backToKw pos (keywordEach kws X.env)).any (·.1.isNone)) = false := by rfl) : PE X (.Call (.Name x p) [] kws pos) (tKw ks.length sp gV E tk) := by
  refine ⟨fun pins s σ H Q I h => wpAny_Call_Name_kw (ld_glob I hg hm (PySem.W.callWith_KW0 (h₀ := X.base) I.ok.mod.kin hk hall (thn (hkw.run pos pins s σ H _ I h) fun ws s2 out => ?_) hpl) hdb)⟩
  obtain ⟨zs, H2, I2, rz, l, q⟩ := out
  refine ⟨I2.kIn, ?_⟩
  rw [hks]
  exact run_fnN (us := []) (vs := []) F hr hb hx I2 .nil rz rfl l q
end
def dPath (p : List Nat) : PyData := .tuple (p.map fun (i : Nat) => PyData.int (i : Int))
theorem dpNums {K : PySem.W.Frag} {H : Hp} : ∀ p : List Nat, DpAll K H (nums p) (p.map fun (i : Nat) => PyData.int (i : Int))
  | [] => .nil
  | i :: r => .cons (.int _) (dpNums r)
theorem dp_paths {K : PySem.W.Frag} {H : Hp} : ∀ (ks : List V) (ps : List (List Nat)), Al (fun (v : V) (p : List Nat) => ∃ b, v = .ref b ∧ SqT K H b (nums p)) ks ps → DpAll K H ks (ps.map dPath)
  | [], [], _ => .nil
  | [], p :: ps, h => absurd h.1 (by simp)
  | k :: ks, [], h => absurd h.1 (by simp)
  | k :: ks, p :: ps, h => by
    obtain ⟨b, rfl, hb⟩ := h.2 0 k p rfl rfl
    exact .cons (.tup hb (dpNums p)) (dp_paths ks ps ⟨by simpa using h.1, fun i x y a c => h.2 (i + 1) x y (by simpa using a) (by simpa using c)⟩)
theorem eqv_nums : ∀ p : List Nat, PyData.eqvAll (p.map fun (i : Nat) => PyData.int (i : Int)) (p.map fun (i : Nat) => PyData.int (i : Int)) = true
  | [] => by simp [PyData.eqvAll]
  | i :: r => by simp only [List.map_cons, PyData.eqvAll, PyData.eqv, eqv_nums r, beq_self_eq_true, Bool.and_self]
theorem lay_nums : ∀ p : List Nat, PyData.canLayAll0 (p.map fun (i : Nat) => PyData.int (i : Int)) = true ∧ PyData.depthAll (p.map fun (i : Nat) => PyData.int (i : Int)) = 0
  | [] => by simp [PyData.canLayAll0, PyData.depthAll]
  | i :: r => by
    obtain ⟨a, b⟩ := lay_nums r
    simp [PyData.canLayAll0, PyData.depthAll, PyData.canLay0, PyData.depth, a, b]
theorem lay_paths : ∀ ps : List (List Nat), PyData.canLayAll0 (ps.map dPath) = true ∧ PyData.depthAll (ps.map dPath) ≤ 1
  | [] => by simp [PyData.canLayAll0, PyData.depthAll]
  | p :: r => by
    obtain ⟨a, b⟩ := lay_paths r
    obtain ⟨c, d⟩ := lay_nums p
    refine ⟨by simp only [List.map_cons, PyData.canLayAll0, dPath, PyData.canLay0, c, Bool.true_and]; exact a, ?_⟩
    simp only [List.map_cons, PyData.depthAll, dPath, PyData.depth, d]
    omega
theorem paths_shaped (ps : List (List Nat)) : SeqAt.shaped (.list (ps.map dPath)) = true := by
  obtain ⟨a, b⟩ := lay_paths ps
  show ((PyData.list (ps.map dPath)).canLay0 && decide ((PyData.list (ps.map dPath)).depth ≤ 64)) = true
  rw [Bool.and_eq_true]
  exact ⟨by simp only [PyData.canLay0]; exact a, decide_eq_true (by simp only [PyData.depth]; omega)⟩
/-- a row: its path leads to its node, which is a term itself -/
theorem rows_at : ∀ (n : Nat) (t : T), t.size ≤ n → Wt t → ∀ (p : List Nat) (r : List Nat × T), r ∈ t.rows p → ∃ is, r.1 = p ++ is ∧ t.at is = some r.2 ∧ Wt r.2 ∧ r.2.size ≤ t.size ∧ r.2.deep + is.length ≤ t.deep := by
  intro n
  induction n with
  | zero =>
    intro t h
    cases t
    simp only [T.size] at h
    omega
  | succ n ih =>
    intro t hs w p r hr
    cases t with
    | node h ks =>
      simp only [T.rows, List.mem_cons] at hr
      rcases hr with rfl | hr
      · exact ⟨[], by simp, rfl, w, Nat.le_refl _, by simp⟩
      · obtain ⟨j, k, e, m⟩ := rowsL_kid p r ks 0 hr
        have mk := List.mem_of_getElem? e
        have h1 := size_kid mk
        have h2 := deep_kid mk
        simp only [T.size, T.deep] at hs ⊢
        obtain ⟨is, a1, a2, a3, a4, a5⟩ := ih k (by omega) (w.kid mk) _ r m
        refine ⟨j :: is, by rw [a1, List.append_assoc, Nat.zero_add]; rfl, ?_, a3, by omega, by simp only [List.length_cons]; omega⟩
        simp only [T.at, e]
        exact a2
/-! ### what law_k01 asks of the program -/
def spCheck (K : PySem.W.Frag) : Sp := fun vs H Q _ => ∃ (v : V) (t : T) (G0 : Hp), vs = [v] ∧ Asked K G0 H v t ∧ ∀ H', Same H H' → Q .non H'
def spCount (K : PySem.W.Frag) : Sp := fun vs H Q _ => ∃ (v : V) (t : T) (G0 : Hp), vs = [v] ∧ Asked K G0 H v t ∧ ∀ H', Same H H' → Q (.int (t.size : Nat)) H'
def spDepth (K : PySem.W.Frag) : Sp := fun vs H Q _ => ∃ (v : V) (t : T) (G0 : Hp), vs = [v] ∧ Asked K G0 H v t ∧ ∀ H', Same H H' → Q (.int (t.deep : Nat)) H'
def spPaths (K : PySem.W.Frag) : Sp := fun vs H Q _ => ∃ (v : V) (t : T) (G0 : Hp), vs = [v] ∧ Asked K G0 H v t ∧
  ∀ (r : Addr) (H' : Hp) (ws : List V), Same H H' → H r = none → H' r = some (.lst ws) → Al (fun (v : V) (p : List Nat) => ∃ b, v = .ref b ∧ SqT K H' b (nums p)) ws ((t.rows []).map Prod.fst) → Q (.ref r) H'
/-- the term at a path, all of its lists new -/
def spAt (K : PySem.W.Frag) : Sp := fun vs H Q _ => ∃ (v : V) (b : Addr) (t k : T) (is : List Nat) (G0 : Hp), vs = [v, .ref b] ∧ Asked K G0 H v t ∧ SqT K H b (nums is) ∧ t.at is = some k ∧
  ∀ (u : V) (H' : Hp) (R : Addr → Prop), Same H H' → Tm K H' u k → (∀ c, R c → H c = none) → Lists H' R → Cl K H' R (3 * k.deep) u → Q u H'
end Vt


set_option Elab.async false
set_option linter.all false
set_option maxRecDepth 100000
set_option maxHeartbeats 4000000

namespace Vt
open PySem PySem.Spec PyProof.Rows L2
def rLenS (K : PySem.W.Frag) : List V → Hp → VK → Prop := fun xs H Q => ∃ p ys, xs = [V.ref p] ∧ (SqL K H p ys ∨ SqT K H p ys) ∧ Q (.int (ys.length : Nat)) H
def spRight (K : PySem.W.Frag) : Sp := fun vs H Q _ => ∃ (v : V) (t : T) (G0 : Hp), vs = [v] ∧ Asked K G0 H v t ∧ t.deep ≤ 19 ∧ ∀ H', Same H H' → Q (.bl true) H'
theorem ifn {b : Bool} {A B : Prop} (h : b = false) (x : B) : if b = true then A else B := by
  rw [h]
  exact iteF x
theorem eqv_paths : ∀ ps : List (List Nat), PyData.eqvAll (ps.map dPath) (ps.map dPath) = true
  | [] => by simp [PyData.eqvAll]
  | p :: r => by
    simp only [List.map_cons, PyData.eqvAll, eqv_paths r, Bool.and_true, dPath, PyData.eqv]
    exact eqv_nums p
theorem cut_last (xs : List V) (v : V) : cutV (xs ++ [v]) none (some (-1)) = xs := by
  unfold cutV
  have h : HT.sIx (xs ++ [v]).length (xs ++ [v]).length (some (-1)) = xs.length := by
    simp [HT.sIx]
    try omega
  rw [h]
  simp [HT.sIx]
theorem deep_mem : ∀ {ks : List T} {m : Nat}, T.deeps ks = m + 1 → ∃ (i : Nat) (k : T), ks[i]? = some k ∧ k.deep = m + 1
  | [], m, h => by simp [T.deeps] at h
  | t :: r, m, h => by
    simp only [T.deeps] at h
    by_cases z : t.deep = m + 1
    · exact ⟨0, t, rfl, z⟩
    · obtain ⟨i, k, e, d⟩ := deep_mem (ks := r) (m := m) (by omega)
      exact ⟨i + 1, k, by simpa using e, d⟩
theorem kid_in (p : List Nat) (r : List Nat × T) : ∀ (ks : List T) (i j : Nat) (k : T), ks[j]? = some k → r ∈ k.rows (p ++ [i + j]) → r ∈ T.rowsL ks p i
  | [], i, j, k, e, h => by simp at e
  | t :: ks, i, 0, k, e, h => by
    cases e
    simp only [T.rowsL, List.mem_append]
    exact .inl h
  | t :: ks, i, j + 1, k, e, h => by
    simp only [T.rowsL, List.mem_append]
    exact .inr (kid_in p r ks (i + 1) j k (by simpa using e) (by rw [show i + 1 + j = i + (j + 1) by omega]; exact h))
theorem deep_row : ∀ (m : Nat) (t : T) (p : List Nat), t.deep = m + 1 → ∃ r ∈ t.rows p, r.1.length = p.length + m := by
  intro m
  induction m with
  | zero =>
    intro t p _
    cases t
    exact ⟨_, by simp only [T.rows]; exact List.mem_cons_self, rfl⟩
  | succ m ih =>
    intro t p h
    cases t with
    | node hh ks =>
      simp only [T.deep] at h
      obtain ⟨i, k, e, d⟩ := deep_mem (ks := ks) (m := m) (by omega)
      obtain ⟨r, hr, el⟩ := ih k (p ++ [i]) d
      refine ⟨r, ?_, by rw [el, List.length_append]; simp; omega⟩
      simp only [T.rows, List.mem_cons]
      exact .inr (kid_in p r ks 0 i k e (by rw [Nat.zero_add]; exact hr))
theorem Cl.more {K : PySem.W.Frag} {H : Hp} {R : Addr → Prop} {n : Nat} {v : V} (c : Cl K H R n v) : ∀ {m : Nat}, n ≤ m → Cl K H R m v := by
  induction c with
  | str => exact fun _ => .str
  | int => exact fun _ => .int
  | bl => exact fun _ => .bl
  | @tup n _ _ h _ ih =>
    intro m hm
    obtain ⟨k, rfl⟩ : ∃ k, m = k + 1 := ⟨m - 1, by omega⟩
    exact .tup h fun x hx => ih x hx (by omega)
  | @lst n _ _ r h _ ih =>
    intro m hm
    obtain ⟨k, rfl⟩ : ∃ k, m = k + 1 := ⟨m - 1, by omega⟩
    exact .lst r h fun x hx => ih x hx (by omega)
abbrev AlP (K : PySem.W.Frag) (H : Hp) (ws : List V) (ps : List (List Nat)) : Prop := Al (fun (v : V) (p : List Nat) => ∃ b, v = .ref b ∧ SqT K H b (nums p)) ws ps
theorem AlP.same {K : PySem.W.Frag} {H H' : Hp} {ws : List V} {ps : List (List Nat)} (h : AlP K H ws ps) (s : Same H H') : AlP K H' ws ps := h.mono fun _ _ _ ⟨b, e, q⟩ => ⟨b, e, s.tupS q⟩
theorem paths_ne {K : PySem.W.Frag} {H : Hp} {a b : Addr} {ws vs : List V} {ps : List (List Nat)} {Q : VK} (ha : H a = some (.lst ws)) (hb : H b = some (.lst vs)) (h1 : AlP K H ws ps) (h2 : AlP K H vs ps) (q : Q (.bl false) H) : rNeD K (.ref a) (.ref b) H Q := by
  refine ⟨.list (ps.map dPath), .list (ps.map dPath), .lst (SqL.of ha) (dp_paths _ _ h1), .lst (SqL.of hb) (dp_paths _ _ h2), paths_shaped ps, paths_shaped ps, ?_⟩
  rw [show PyData.eqv (.list (ps.map dPath)) (.list (ps.map dPath)) = true by simp only [PyData.eqv]; exact eqv_paths ps]
  exact q
theorem Asked.same {K : PySem.W.Frag} {G0 H H' : Hp} {v : V} {t : T} (h : Asked K G0 H v t) (s : Same H H') : Asked K G0 H' v t := ⟨h.sm.trans s, h.tm, h.wt, h.sz, h.dp⟩
abbrev s_law_right : Stmt := topS 59
abbrev N_law_right : List Str := ["term_here", "kept", "rows", "told", "high", "path_here", "node"]
theorem sc_law_right : FnScope N_law_right ["term_here"] (defScope s_law_right) := ⟨rfl, rfl, rfl, by decide +kernel, rfl, by decide +kernel, by decide +kernel⟩
section
variable {P : Program} {w : World} {K : PySem.W.Frag} {mg : Str → Option Value} {base : Heap}
theorem ok_right {m : Nat} {f : Addr} {fd : FuncData} (F : Fun K "_law_right" "_law_right" s_law_right f fd) (Z : Blt mg) (z_max : mg "max" = none)
    {f_check_term : Addr} {fd_check_term : FuncData} (G_check_term : FnOk P w K mg base CX0 m f_check_term fd_check_term ["value"] (spCheck K)) (m_check_term : mg "check_term" = some (.ref f_check_term)) (k_check_term : PySem.W.keepIn K (.ref f_check_term) = true) (b_check_term : Binds K fd_check_term ["value"] []) (kb_check_term : KBn K fd_check_term ["value"] 0 ["value"] (fun _ ws => ws) (fun _ zs => zs))
    {f_paths : Addr} {fd_paths : FuncData} (G_paths : FnOk P w K mg base CX0 m f_paths fd_paths ["term"] (spPaths K)) (m_paths : mg "paths" = some (.ref f_paths)) (k_paths : PySem.W.keepIn K (.ref f_paths) = true) (b_paths : Binds K fd_paths ["term"] []) (kb_paths : KBn K fd_paths ["term"] 0 ["term"] (fun _ ws => ws) (fun _ zs => zs))
    {f_node_count : Addr} {fd_node_count : FuncData} (G_node_count : FnOk P w K mg base CX0 m f_node_count fd_node_count ["term"] (spCount K)) (m_node_count : mg "node_count" = some (.ref f_node_count)) (k_node_count : PySem.W.keepIn K (.ref f_node_count) = true) (b_node_count : Binds K fd_node_count ["term"] []) (kb_node_count : KBn K fd_node_count ["term"] 0 ["term"] (fun _ ws => ws) (fun _ zs => zs))
    {f_depth : Addr} {fd_depth : FuncData} (G_depth : FnOk P w K mg base CX0 m f_depth fd_depth ["term"] (spDepth K)) (m_depth : mg "depth" = some (.ref f_depth)) (k_depth : PySem.W.keepIn K (.ref f_depth) = true) (b_depth : Binds K fd_depth ["term"] []) (kb_depth : KBn K fd_depth ["term"] 0 ["term"] (fun _ ws => ws) (fun _ zs => zs))
    {f_term_at : Addr} {fd_term_at : FuncData} (G_term_at : FnOk P w K mg base CX0 m f_term_at fd_term_at ["term", "path"] (spAt K)) (m_term_at : mg "term_at" = some (.ref f_term_at)) (k_term_at : PySem.W.keepIn K (.ref f_term_at) = true) (b_term_at : Binds K fd_term_at ["term", "path"] []) (kb_term_at : KBn K fd_term_at ["term", "path"] 0 ["path", "term"] (fun _ ws => ws.reverse) (fun _ zs => zs.reverse))
    (H_law_all : DefOk P w K mg base CX0 m "_law_all" ["node", "path_here"] (spAll K 20)) (H_law_cleared : DefOk P w K mg base CX0 m "_law_cleared" ["thing"] (spCl K 60)) :
    FnG P w K mg base CX0 (m + 1) f fd ["term_here"] (spRight K) := by
  have z_repr := Z.repr
  have z_len := Z.len
  obtain ⟨f_law_all, fd_law_all, G_law_all, m_law_all, k_law_all, b_law_all⟩ := H_law_all
  obtain ⟨f_law_cleared, fd_law_cleared, G_law_cleared, m_law_cleared, k_law_cleared, b_law_cleared⟩ := H_law_cleared
  have nd := sc_law_right.nd
  refine fnG F sc_law_right (fun vs H Q E h => ?_) (fun cdv A outer s0 H vs Q E gd hr h => ?_)
  · obtain ⟨v, t, G0, rfl, _⟩ := h
    rfl
  obtain ⟨v, t, G0, rfl, ha, h19, q⟩ := h
  have hu : (A.deeper (envOfC "_law_right" (defScope s_law_right) s0.heap.objs.size f cdv)).units + 64 < cLine := hr.units
  refine ⟨_, (pss_cons (ps_par (i := 1) (j := 2) (by rfl) nd rfl rfl (by decide) rfl rfl (pa_cons (pe_callB (call_reprG gd hu) (by rfl) z_repr (by decide +kernel) (pa_cons (pv 0) pa_nil)) (pa_cons (pe_call G_law_all (hr) rfl m_law_all k_law_all b_law_all .nil pass0 (pa_cons (pv 0) (pa_cons (pe_tup pa_nil) pa_nil))) pa_nil)) (by rfl))
      (pss_cons (ps_if (PW.pt (pw_or (pt_cmpR op_notN (pe_call G_check_term (hr) rfl m_check_term k_check_term b_check_term .nil pass0 (pa_cons (pv 0) pa_nil)) pe_non (nomark _)) (pw_or1 (pt_cmpR op_notN (pe_kw0 G_check_term (hr) rfl m_check_term k_check_term kb_check_term pass0 (pk_cons (pv 0) pk_nil)) pe_non (nomark _))))) (pss_one (ps_ret pe_bl)) pss_nil)
      (pss_cons (ps_set (i := 3) nd rfl (Or.inl rfl) (pe_call G_paths (hr) rfl m_paths k_paths b_paths .nil pass0 (pa_cons (pv 0) pa_nil)))
      (pss_cons (ps_if (PW.pt (pw_or (pt_cmpR (op_neD hu) (pv 3) (pe_lc (own := [("path_here", 5), ("node", 6)]) (g := gTup K 2 (gCons (gName 5) (gCons (gName 6) gNil))) (tt := tYes) rfl nd (pi_list (pv 2)) (blkOk_by (N := N_law_right) (sc := defScope s_law_right) (by decide +kernel)) (fun _ _ _ _ _ => (pg_tup rfl (pgs_cons (pg_name (i := 5) nd rfl (Or.inl rfl)) (pgs_cons (pg_name (i := 6) nd rfl (Or.inl rfl)) pgs_nil)))) (fun _ _ _ _ _ => pts_nil) (fun _ _ _ _ _ => (pv 5))) (nomark _)) (pw_or1 (pt_cmpR op_ne (pe_call G_node_count (hr) rfl m_node_count k_node_count b_node_count .nil pass0 (pa_cons (pv 0) pa_nil)) (pe_callB call_len_seq (by rfl) z_len (by decide +kernel) (pa_cons (pv 2) pa_nil)) (nomark _))))) (pss_one (ps_ret pe_bl)) pss_nil)
      (pss_cons (ps_expr (pe_bm PySem.F.plainAttrs_list PySem.F.slot_list_append PySem.F.type_list_append mt_append (pv 3) (pa_cons pe_non pa_nil)))
      (pss_cons (ps_if (PW.pt (pw_or (pt_cmpR (op_neD hu) (pe_kw0 G_paths (hr) rfl m_paths k_paths kb_paths pass0 (pk_cons (pv 0) pk_nil)) (pe_slice sl_list (pv 3) po_none (po_some (pe_un un_neg pe_int))) (nomark _)) (pw_or1 (pt_cmpR op_ne (pe_kw0 G_node_count (hr) rfl m_node_count k_node_count kb_node_count pass0 (pk_cons (pv 0) pk_nil)) (pe_callB call_len_seq (by rfl) z_len (by decide +kernel) (pa_cons (pv 2) pa_nil)) (nomark _))))) (pss_one (ps_ret pe_bl)) pss_nil)
      (pss_cons (ps_set (i := 4) nd rfl (Or.inl rfl) (pe_op op_add pe_int (pe_callB (cr_max rfl) (by rfl) z_max (by decide +kernel) (pa_cons (pe_lc (own := [("path_here", 5), ("node", 6)]) (g := gTup K 2 (gCons (gName 5) (gCons (gName 6) gNil))) (tt := tYes) rfl nd (pi_list (pv 2)) (blkOk_by (N := N_law_right) (sc := defScope s_law_right) (by decide +kernel)) (fun _ _ _ _ _ => (pg_tup rfl (pgs_cons (pg_name (i := 5) nd rfl (Or.inl rfl)) (pgs_cons (pg_name (i := 6) nd rfl (Or.inl rfl)) pgs_nil)))) (fun _ _ _ _ _ => pts_nil) (fun _ _ _ _ _ => (pe_callB (r := rLenS K) call_len_seq (by rfl) z_len (by decide +kernel) (pa_cons (pv 5) pa_nil)))) pa_nil))))
      (pss_cons (ps_if (PW.pt (pw_or (pt_cmpR op_ne (pe_call G_depth (hr) rfl m_depth k_depth b_depth .nil pass0 (pa_cons (pv 0) pa_nil)) (pv 4) (nomark _)) (pw_or1 (pt_cmpR op_ne (pe_kw0 G_depth (hr) rfl m_depth k_depth kb_depth pass0 (pk_cons (pv 0) pk_nil)) (pv 4) (nomark _))))) (pss_one (ps_ret pe_bl)) pss_nil)
      (pss_cons (ps_for PassesOwn.never rfl (pi_list (pv 2)) (pg_tup rfl (pgs_cons (pg_name (i := 5) nd rfl (Or.inl rfl)) (pgs_cons (pg_name (i := 6) nd rfl (Or.inl rfl)) pgs_nil))) (pss_one (ps_if (PW.pt (pw_or (pt_cmpR (op_neD hu) (pe_call G_term_at (hr) rfl m_term_at k_term_at b_term_at .nil pass0 (pa_cons (pv 0) (pa_cons (pv 5) pa_nil))) (pv 6) (nomark _)) (pw_or1 (pt_cmpR (op_neD hu) (pe_kw0 G_term_at (hr) rfl m_term_at k_term_at kb_term_at pass0 (pk_cons (pv 5) (pk_cons (pv 0) pk_nil))) (pv 6) (nomark _))))) (pss_one (ps_ret pe_bl)) pss_nil)))
      (pss_cons (ps_for PassesOwn.never rfl (pi_list (pv 2)) (pg_tup rfl (pgs_cons (pg_name (i := 5) nd rfl (Or.inl rfl)) (pgs_cons (pg_name (i := 6) nd rfl (Or.inl rfl)) pgs_nil))) (pss_one (ps_expr (pe_call G_law_cleared (hr) rfl m_law_cleared k_law_cleared b_law_cleared .nil pass0 (pa_cons (pe_call G_term_at (hr) rfl m_term_at k_term_at b_term_at .nil pass0 (pa_cons (pv 0) (pa_cons (pv 5) pa_nil))) pa_nil)))))
      (pss_one (ps_ret (pe_cmpR op_eq (pe_callB (call_reprG gd hu) (by rfl) z_repr (by decide +kernel) (pa_cons (pv 0) pa_nil)) (pv 1) (nomark _)))))))))))))), ?_⟩
  walk_at "rd"
  have X0 := data_tx _ t (Nat.le_refl _) ha.wt
  have hz := ha.sz
  refine ⟨v, t.data, rfl, .inl (ha.tm.same ha.sm).dp, X0.sh, Nat.le_trans X0.dp (by omega), Nat.le_trans X0.sz (Nat.le_trans (by omega : _ ≤ 160000) (by decide)), ?_⟩
  walk_at "rd"
  intro pt hpt
  have S1 := same_new hpt (.tup [])
  have hpt1 := @upd_same H pt (.tup [])
  clear hpt
  generalize upd H pt (.tup []) = H1 at *
  walk_at "rd"
  refine ⟨v, t, G0, pt, [], rfl, (ha.same S1).sm, ha.tm, ha.wt, ha.sz, by omega, SqT.of hpt1, by simp; omega, fun pr H2 ws S2 n2 h2 al => ?_⟩
  have S := S1.trans S2
  clear S1 S2 hpt1 n2
  refine ⟨_, _, rfl, ?_⟩
  walk_at "rd"
  refine ⟨v, t, G0, rfl, ha.same S, fun H3 S3 => ⟨rfl, ⟨_, rfl, ifn (by simp) ?_⟩⟩⟩
  walk_at "rd"
  refine ⟨v, t, G0, rfl, (ha.same S).same S3, fun H4 S4 => ⟨rfl, ⟨_, rfl, ifn (by simp) ?_⟩⟩⟩
  have hr4 := S4 _ _ (S3 _ _ h2)
  have S := (S.trans S3).trans S4
  have al : Al (Row K G0 H4) ws (t.rows []) := al.mono fun _ _ _ r => (r.same S3).same S4
  clear S3 S4 h2
  walk_at "rd"
  refine ⟨v, t, G0, rfl, ha.same S, fun rk H5 ks S5 n5 h5 al5 => ?_⟩
  have hr5 := S5 _ _ hr4
  walk_at "rd"
  have zr := rows_len t []
  refine ⟨⟨_, SqL.of hr5⟩, fun D hD => ?_⟩
  refine lc_list (K := K) (a := pr) (xs := ws) (fun i Y => ∃ (G : Hp) (vs : List V), Same G Y ∧ G D = none ∧ Same H5 G ∧ Y D = some (.lst vs) ∧ AlP K G vs (((t.rows []).take i).map Prod.fst))
    ⟨H5, [], same_new hD _, hD, Same.refl _, upd_same, by exact Al.nil⟩ (fun i Y hi ⟨G, vs, u1, u2, u3, u4, u5⟩ => SqL.of ((u3.trans u1) _ _ hr5)) ?_ ?_
  · rintro j x Y hx ⟨G, vs, u1, u2, u3, u4, u5⟩
    have hj := (List.getElem?_eq_some_iff.mp hx).1
    obtain ⟨row, hrow⟩ : ∃ row, (t.rows [])[j]? = some row := ⟨_, List.getElem?_eq_getElem (by rw [← al.1]; exact hj)⟩
    obtain ⟨b, pa, u, rfl, q1, q2, q3⟩ := al.2 j x row hx hrow
    have et : (t.rows []).take (j + 1) = (t.rows []).take j ++ [row] := by
      rw [List.take_add_one, hrow]
      rfl
    have vl : vs.length ≤ 400 := by
      rw [u5.1, List.length_map, List.length_take]
      omega
    refine ⟨b, _, rfl, ((S5.trans u3).trans u1).tupS q1, rfl, ?_⟩
    refine ⟨_, _, rfl, ⟨_, _, rfl, rfl, ?_⟩⟩
    walk_at "rd"
    refine ⟨vs, u4, small1000 (by omega), G, vs ++ [V.ref pa], u1.wr u2, u2, u3, upd_same, ?_⟩
    rw [et, List.map_append]
    exact u5.snoc ⟨pa, rfl, (S5.trans u3).tupS q2⟩
  rintro Y ⟨G, vs, u1, u2, u3, u4, u5⟩
  rw [al.1, List.take_length] at u5
  have SY := u3.trans u1
  refine paths_ne (SY _ _ h5) u4 (AlP.same al5 SY) (AlP.same u5 u1) ⟨false, rfl, iteF ?_⟩
  have hkY := SY _ _ h5
  have alY := AlP.same al5 SY
  have SB := S5.trans SY
  clear u1 u2 u3 u4 u5 hr5 h5 SY hD al5 S5
  have wl : ws.length = t.size := by rw [al.1, zr]
  walk_at "rd"
  refine ⟨v, t, G0, rfl, (ha.same S).same SB, fun H6 S6 => ?_⟩
  walk_at "rd"
  refine ⟨pr, ws, rfl, .inl (SqL.of (S6 _ _ (SB _ _ hr4))), by simp [scal], ⟨_, rfl, ifn (by rw [wl]; simp) ?_⟩⟩
  have hkY := S6 _ _ hkY
  have alY := AlP.same alY S6
  have SB := SB.trans S6
  clear S6
  walk_at "rd"
  refine ⟨.inl ⟨rfl, _, SqL.of hkY⟩, ?_⟩
  walk_at "rd"
  have kl : ks.length = t.size := by rw [alY.1, List.length_map, zr]
  refine ⟨rk, _, _, rfl, rfl, hkY, small1000 (by omega), ?_⟩
  have SB := SB.wr (o := .lst (ks ++ [V.non])) n5
  have hk7 := @upd_same H6 rk (.lst (ks ++ [V.non]))
  have al7 : AlP K (upd H6 rk (.lst (ks ++ [V.non]))) ks ((t.rows []).map Prod.fst) := alY.mono fun _ _ _ ⟨b, e, q⟩ => ⟨b, e, by
    rcases q with (h | ⟨o, h⟩) | h
    · exact .inl (.inl (by rw [upd_ne (fun z => by rw [z, hkY] at h; injection h with h; cases h)]; exact h))
    · exact .inl (.inr ⟨o, by rw [upd_ne (fun z => by rw [z, hkY] at h; injection h with h; cases h)]; exact h⟩)
    · exact .inr h⟩
  clear hkY alY
  generalize upd H6 rk (.lst (ks ++ [V.non])) = H7 at *
  walk_at "rd"
  refine ⟨v, t, G0, rfl, (ha.same S).same SB, fun r8 H8 ks8 S8 n8 h8 al8 => ?_⟩
  walk_at "rd"
  refine ⟨rk, ks ++ [V.non], rfl, SqL.of (S8 _ _ hk7), fun p9 hp9 => ?_⟩
  rw [cut_last]
  have S9 := same_new hp9 (.lst ks)
  refine paths_ne (S9 _ _ h8) upd_same (AlP.same al8 S9) (AlP.same al7 (S8.trans S9)) ⟨false, rfl, iteF ?_⟩
  have SB := (SB.trans S8).trans S9
  clear S8 S9 n8 h8 al8 hp9 al7 hk7
  generalize upd H8 p9 (.lst ks) = H9 at *
  walk_at "rd"
  refine ⟨v, t, G0, rfl, (ha.same S).same SB, fun Ha Sa => ?_⟩
  walk_at "rd"
  refine ⟨pr, ws, rfl, .inl (SqL.of (Sa _ _ (SB _ _ hr4))), by simp [scal], ⟨_, rfl, ifn (by rw [wl]; simp) ?_⟩⟩
  have SB := SB.trans Sa
  clear Sa
  walk_at "rd"
  have hra := SB _ _ hr4
  refine ⟨⟨_, SqL.of hra⟩, fun D hD => ?_⟩
  refine lc_list (K := K) (a := pr) (xs := ws) (fun i Y => ∃ (G : Hp), Same G Y ∧ G D = none ∧ Same Ha G ∧ Y D = some (.lst ((((t.rows []).take i).map fun r => (r.1.length : Int)).map V.int)))
    ⟨Ha, same_new hD _, hD, Same.refl _, upd_same⟩ (fun i Y hi ⟨G, u1, u2, u3, u4⟩ => SqL.of ((u3.trans u1) _ _ hra)) ?_ ?_
  · rintro j x Y hx ⟨G, u1, u2, u3, u4⟩
    have hj := (List.getElem?_eq_some_iff.mp hx).1
    obtain ⟨row, hrow⟩ : ∃ row, (t.rows [])[j]? = some row := ⟨_, List.getElem?_eq_getElem (by rw [← al.1]; exact hj)⟩
    obtain ⟨b, pa, u, rfl, q1, q2, q3⟩ := al.2 j x row hx hrow
    have et : (t.rows []).take (j + 1) = (t.rows []).take j ++ [row] := by
      rw [List.take_add_one, hrow]
      rfl
    have SY := (SB.trans u3).trans u1
    refine ⟨b, _, rfl, SY.tupS q1, rfl, ?_⟩
    refine ⟨_, _, rfl, ⟨_, _, rfl, rfl, ?_⟩⟩
    walk_at "rd"
    refine ⟨pa, nums row.1, rfl, .inr (SY.tupS q2), ?_⟩
    refine ⟨_, u4, small1000 (by rw [List.length_map, List.length_map, List.length_take]; omega), G, u1.wr u2, u2, u3, ?_⟩
    rw [upd_same, et, List.map_append, List.map_append]
    simp [nums]
  rintro Y ⟨G, u1, u2, u3, u4⟩
  rw [al.1, List.take_length] at u4
  have SY := u3.trans u1
  have SB := SB.trans SY
  clear u1 u2 u3 hD SY hra
  walk_at "rd"
  obtain ⟨dm, hdm⟩ : ∃ m, t.deep = m + 1 := ⟨t.deep - 1, by
    have : 1 ≤ t.deep := by
      cases t
      simp only [T.deep]
      omega
    omega⟩
  refine ⟨D, _, rfl, SqL.of u4, by rw [List.length_map, zr, ← wl, wl]; have : 1 ≤ t.size := (by cases t; simp only [T.size]; omega); omega, fun M hM hle => ?_⟩
  have eM : M = (dm : Int) := by
    obtain ⟨r, hr, rfl⟩ := List.mem_map.mp hM
    obtain ⟨is, a1, _, _, _, a5⟩ := rows_at _ t (Nat.le_refl _) ha.wt [] r hr
    obtain ⟨r2, hr2, el⟩ := deep_row dm t [] hdm
    have b1 := hle _ (List.mem_map.mpr ⟨r2, hr2, rfl⟩)
    have b2 : 1 ≤ r.2.deep := by
      cases r.2
      simp only [T.deep]
      omega
    have b3 : r.1.length = is.length := by rw [a1]; simp
    simp only [List.length_nil] at el
    omega
  subst eM
  walk_at "rd"
  refine ⟨v, t, G0, rfl, (ha.same S).same SB, fun Hb Sb => ?_⟩
  walk_at "rd"
  refine ifn (show (!decide (V.int (t.deep : Nat) = V.int ((1 : Int) + (dm : Int)))) = false by rw [hdm, show ((1 : Int) + (dm : Int)) = ((dm + 1 : Nat) : Int) by omega]; simp) ?_
  have SB := SB.trans Sb
  clear Sb u4
  walk_at "rd"
  refine ⟨v, t, G0, rfl, (ha.same S).same SB, fun Hc Sc => ?_⟩
  walk_at "rd"
  refine ifn (show (!decide (V.int (t.deep : Nat) = V.int ((1 : Int) + (dm : Int)))) = false by rw [hdm, show ((1 : Int) + (dm : Int)) = ((dm + 1 : Nat) : Int) by omega]; simp) ?_
  have SB := SB.trans Sc
  clear Sc
  walk_at "rd"
  have hrc := SB _ _ hr4
  refine ⟨⟨_, SqL.of hrc⟩, ?_⟩
  refine for_list (K := K) (a := pr) (xs := ws) (fun i σ X => ∃ s5 s6 : Option V, σ = [some v, some (.str t.data.shown), some (.ref pr), some (.ref rk), some (.int ((1 : Int) + (dm : Int))), s5, s6] ∧ Same Hc X)
    ⟨_, _, rfl, Same.refl _⟩ (fun i σ X hi ⟨_, _, _, g⟩ => SqL.of (g _ _ hrc)) ?_ ?_
  · rintro i x σ X hx ⟨s5, s6, rfl, g⟩
    have hj := (List.getElem?_eq_some_iff.mp hx).1
    obtain ⟨row, hrow⟩ : ∃ row, (t.rows [])[i]? = some row := ⟨_, List.getElem?_eq_getElem (by rw [← al.1]; exact hj)⟩
    obtain ⟨b, pa, u, rfl, q1, q2, q3⟩ := al.2 i x row hx hrow
    obtain ⟨is, a1, a2, a3, a4, a5⟩ := rows_at _ t (Nat.le_refl _) ha.wt [] row (List.mem_of_getElem? hrow)
    rw [List.nil_append] at a1
    rw [a1] at q2
    have SX := SB.trans g
    have hA := (ha.same S).same SX
    refine ⟨b, _, rfl, SX.tupS q1, rfl, ?_⟩
    refine ⟨_, _, rfl, ⟨_, _, rfl, rfl, ?_⟩⟩
    walk_at "rd"
    refine ⟨v, pa, t, row.2, is, G0, rfl, hA, SX.tupS q2, a2, fun w1 X1 R1 S1 t1 _ _ _ => ?_⟩
    walk_at "rd"
    refine term_ne a3 (by omega) t1 (q3.same (hA.sm.trans S1)) ⟨false, rfl, iteF ?_⟩
    walk_at "rd"
    refine ⟨v, pa, t, row.2, is, G0, rfl, hA.same S1, S1.tupS (SX.tupS q2), a2, fun w2 X2 R2 S2 t2 _ _ _ => ?_⟩
    walk_at "rd"
    refine term_ne a3 (by omega) t2 (q3.same ((hA.sm.trans S1).trans S2)) ⟨false, rfl, iteF ?_⟩
    exact ⟨_, _, rfl, (g.trans S1).trans S2⟩
  rintro σ X ⟨s5, s6, rfl, g⟩
  have SB := SB.trans g
  clear g hrc
  have hrx := SB _ _ hr4
  walk_at "rd"
  refine ⟨⟨_, SqL.of hrx⟩, ?_⟩
  refine for_list (K := K) (a := pr) (xs := ws) (fun i σ Y => ∃ s5 s6 : Option V, σ = [some v, some (.str t.data.shown), some (.ref pr), some (.ref rk), some (.int ((1 : Int) + (dm : Int))), s5, s6] ∧ Same X Y)
    ⟨_, _, rfl, Same.refl _⟩ (fun i σ Y hi ⟨_, _, _, g⟩ => SqL.of (g _ _ hrx)) ?_ ?_
  · rintro i x σ Y hx ⟨s5, s6, rfl, g⟩
    have hj := (List.getElem?_eq_some_iff.mp hx).1
    obtain ⟨row, hrow⟩ : ∃ row, (t.rows [])[i]? = some row := ⟨_, List.getElem?_eq_getElem (by rw [← al.1]; exact hj)⟩
    obtain ⟨b, pa, u, rfl, q1, q2, q3⟩ := al.2 i x row hx hrow
    obtain ⟨is, a1, a2, a3, a4, a5⟩ := rows_at _ t (Nat.le_refl _) ha.wt [] row (List.mem_of_getElem? hrow)
    rw [List.nil_append] at a1
    rw [a1] at q2
    have SX := SB.trans g
    have hA := (ha.same S).same SX
    refine ⟨b, _, rfl, SX.tupS q1, rfl, ?_⟩
    refine ⟨_, _, rfl, ⟨_, _, rfl, rfl, ?_⟩⟩
    walk_at "rd"
    refine ⟨v, pa, t, row.2, is, G0, rfl, hA, SX.tupS q2, a2, fun w1 X1 R1 S1 t1 new1 l1 c1 => ?_⟩
    walk_at "rd"
    refine ⟨w1, R1, rfl, l1, c1.more (by omega), fun X2 ch => ?_⟩
    have S2 : Same Y X2 := fun c o e => ch.old c o (fun r => by rw [new1 c r] at e; cases e) (S1 c o e)
    exact ⟨_, _, rfl, g.trans S2⟩
  rintro σ Y ⟨s5, s6, rfl, g⟩
  have SB := SB.trans g
  walk_at "rd"
  refine ⟨v, t.data, rfl, .inl (ha.tm.same ((ha.sm.trans S).trans SB)).dp, X0.sh, Nat.le_trans X0.dp (by omega), Nat.le_trans X0.sz (Nat.le_trans (by omega : _ ≤ 160000) (by decide)), ?_⟩
  refine ⟨_, rfl, by simp [scal], ?_⟩
  rw [decide_eq_true rfl]
  exact q _ (S.trans SB)
end
end Vt


set_option Elab.async false
set_option linter.all false
set_option maxRecDepth 100000
set_option maxHeartbeats 4000000

namespace Vt
open PySem PySem.Spec PyProof.Rows L2
theorem kp_same {s : Addr} {G H H' : Hp} (h : Same G H) (hs : G s = none) (k : Keep s H H') : Same G H' := fun b o e => k b o (ne_of_none e hs) (h b o e)
def spLaw (K : PySem.W.Frag) : Sp := fun vs H Q _ => ∃ (a : Addr) (ns : List Int), vs = [.ref a] ∧ SqL K H a (ns.map V.int) ∧ ns.length ≤ 900 ∧ ∀ H', Q (.bl true) H'
abbrev s_law : Stmt := topS 60
abbrev N_law : List Str := ["script", "cell", "source"]
theorem sc_law : FnScope N_law ["script"] (defScope s_law) := ⟨rfl, rfl, rfl, by decide +kernel, rfl, by decide +kernel, by decide +kernel⟩
section
variable {P : Program} {w : World} {K : PySem.W.Frag} {mg : Str → Option Value} {base : Heap}
theorem ok_law {m : Nat} {f : Addr} {fd : FuncData} (F : Fun K "law" "law" s_law f fd) (Z : Blt mg)
    (H_law_cell_at : DefOk P w K mg base CX0 m "_law_cell_at" ["script", "index"] (spCell K))
    (H_law_next : DefOk P w K mg base CX0 m "_law_next" ["source", "many"] (spNext))
    (H_law_term : DefOk P w K mg base CX0 m "_law_term" ["source", "names", "deep"] (spTerm K 5))
    (H_law_source_of : DefOk P w K mg base CX0 m "_law_source_of" ["cell"] (spSource))
    (H_law_wide : DefOk P w K mg base CX0 m "_law_wide" ["source", "deep"] (spWide K 3))
    {f_law_right : Addr} {fd_law_right : FuncData} (G_law_right : FnG P w K mg base CX0 m f_law_right fd_law_right ["term_here"] (spRight K)) (m_law_right : mg "_law_right" = some (.ref f_law_right)) (k_law_right : PySem.W.keepIn K (.ref f_law_right) = true) (b_law_right : Binds K fd_law_right ["term_here"] []) :
    FnG P w K mg base CX0 (m + 1) f fd ["script"] (spLaw K) := by
  obtain ⟨f_law_cell_at, fd_law_cell_at, G_law_cell_at, m_law_cell_at, k_law_cell_at, b_law_cell_at⟩ := H_law_cell_at
  obtain ⟨f_law_next, fd_law_next, G_law_next, m_law_next, k_law_next, b_law_next⟩ := H_law_next
  obtain ⟨f_law_term, fd_law_term, G_law_term, m_law_term, k_law_term, b_law_term⟩ := H_law_term
  obtain ⟨f_law_source_of, fd_law_source_of, G_law_source_of, m_law_source_of, k_law_source_of, b_law_source_of⟩ := H_law_source_of
  obtain ⟨f_law_wide, fd_law_wide, G_law_wide, m_law_wide, k_law_wide, b_law_wide⟩ := H_law_wide
  have nd := sc_law.nd
  refine fnG F sc_law (fun vs H Q E h => ?_) (fun cdv A outer s0 H vs Q E gd hr h => ?_)
  · obtain ⟨a, ns, rfl, _⟩ := h
    rfl
  obtain ⟨a, ns, rfl, ha, hn, q⟩ := h
  refine ⟨_, (pss_cons (ps_for PassesOwn.never rfl (pi_list (pe_op op_cat (pe_lst (pa_cons (pe_call G_law_cell_at (hr) rfl m_law_cell_at k_law_cell_at b_law_cell_at .nil pass0 (pa_cons (pv 0) (pa_cons pe_int pa_nil))) pa_nil)) (pe_slice sl_list (pv 0) (po_some pe_int) (po_some pe_int)))) (pg_name (i := 1) nd rfl (Or.inl rfl)) (pss_cons (ps_set (i := 2) nd rfl (Or.inl rfl) (pe_call G_law_source_of (hr) rfl m_law_source_of k_law_source_of b_law_source_of .nil pass0 (pa_cons (pv 1) pa_nil)))
      (pss_cons (ps_if (pt_not (pt_val (pe_callG G_law_right gd (hr) rfl m_law_right k_law_right b_law_right pass0 (pa_cons (pe_call G_law_term (hr) rfl m_law_term k_law_term b_law_term .nil pass0 (pa_cons (pv 2) (pa_cons (pe_lst pa_nil) (pa_cons (pe_op op_add pe_int (pe_call G_law_next (hr) rfl m_law_next k_law_next b_law_next .nil pass0 (pa_cons (pv 2) (pa_cons pe_int pa_nil)))) pa_nil)))) pa_nil)))) (pss_one (ps_ret pe_bl)) pss_nil)
      (pss_one (ps_if (pt_not (pt_val (pe_callG G_law_right gd (hr) rfl m_law_right k_law_right b_law_right pass0 (pa_cons (pe_call G_law_wide (hr) rfl m_law_wide k_law_wide b_law_wide .nil pass0 (pa_cons (pv 2) (pa_cons (pe_op op_add pe_int (pe_call G_law_next (hr) rfl m_law_next k_law_next b_law_next .nil pass0 (pa_cons (pv 2) (pa_cons pe_int pa_nil)))) pa_nil))) pa_nil)))) (pss_one (ps_ret pe_bl)) pss_nil)))))
      (pss_one (ps_ret pe_bl))), ?_⟩
  walk_at "rd"
  refine ⟨a, ns, rfl, ha, hn, fun i0 H1 S1 => ?_⟩
  walk_at "rd"
  intro p1 hp1
  have S2 := S1.trans (same_new hp1 (.lst [V.int i0]))
  have l1 := @upd_same H1 p1 (.lst [V.int i0])
  clear hp1
  generalize upd H1 p1 (.lst [V.int i0]) = H2 at *
  walk_at "rd"
  refine ⟨a, _, rfl, S2.seq ha, fun p2 hp2 => ?_⟩
  have S3 := S2.trans (same_new hp2 (.lst (cutV (ns.map V.int) (some 1) (some 6))))
  have l2 := @upd_same H2 p2 (.lst (cutV (ns.map V.int) (some 1) (some 6)))
  have l1' := (same_new hp2 (.lst (cutV (ns.map V.int) (some 1) (some 6)))) _ _ l1
  have n2 : (cutV (ns.map V.int) (some 1) (some 6)).length ≤ 900 := Nat.le_trans (cutV_length _ _ _) (by rw [List.length_map]; exact hn)
  have hcut : ∀ v ∈ V.int i0 :: cutV (ns.map V.int) (some 1) (some 6), ∃ c : Int, v = .int c := fun v hv => by
    rcases List.mem_cons.mp hv with e | hv
    · exact ⟨_, e⟩
    · obtain ⟨c, _, e⟩ := List.mem_map.mp (mem_cut hv)
      exact ⟨c, e.symm⟩
  clear hp2 l1
  generalize upd H2 p2 (.lst (cutV (ns.map V.int) (some 1) (some 6))) = H3 at *
  generalize cutV (ns.map V.int) (some 1) (some 6) = cells at *
  refine ⟨p1, p2, _, _, rfl, rfl, l1', l2, sz (by simp; omega), fun p3 hp3 => ?_⟩
  have l3 := @upd_same H3 p3 (.lst ([V.int i0] ++ cells))
  generalize upd H3 p3 (.lst ([V.int i0] ++ cells)) = H4 at *
  clear S1 S2 S3 l1' l2 hp3
  refine ⟨p3, rfl, ⟨_, SqL.of l3⟩, ?_⟩
  refine for_list (K := K) (a := p3) (xs := [V.int i0] ++ cells) (fun i σ X => ∃ s1 s2 : Option V, σ = [some (.ref a), s1, s2] ∧ Same H4 X)
    ⟨none, none, rfl, Same.refl _⟩ (fun i σ X hi ⟨_, _, _, g⟩ => SqL.of (g _ _ l3)) ?_ ?_
  · rintro i x σ X hx ⟨s1, s2, rfl, g⟩
    obtain ⟨c, rfl⟩ := hcut x (List.mem_of_getElem? hx)
    walk_at "rd"
    intro s X1 g1 hsrc hs0
    have gX1 := g.trans g1
    have h4s : H4 s = none := g.fr hs0
    walk_at "rd"
    intro pl hpl
    have src1 : Src (upd X1 pl (.lst [])) s := hsrc.new hpl
    have hl1 := @upd_same X1 pl (.lst [])
    have gX2 : Same H4 (upd X1 pl (.lst [])) := gX1.trans (same_new hpl _)
    clear hpl
    generalize upd X1 pl (.lst []) = X2 at *
    walk_at "rd"
    refine ⟨s, 3, rfl, src1, by decide, by decide, fun d0 X3 d1 d2 k2 src2 => ?_⟩
    walk_at "rd"
    obtain ⟨j, rfl⟩ := Int.eq_ofNat_of_zero_le d1
    have hl3 : X3 pl = some (.lst []) := k2.list src1 (no3_strs []) hl1
    have gX3 := kp_same gX2 h4s k2
    refine ⟨s, pl, [], j + 2, by show [V.ref s, V.ref pl, V.int ((2 : Int) + (j : Int))] = _; rw [show ((2 : Int) + (j : Int)) = ((j + 2 : Nat) : Int) by omega], src2, hl3, (fun x hx => by cases hx), by omega, by omega, by simp; omega, fun v X4 t k3 src3 tm dr => ?_⟩
    obtain ⟨wf, tsz, tdp, tsc⟩ := dr
    have tsz : t.size ≤ 400 := by
      refine Nat.le_trans tsz ?_
      rcases (show j = 0 ∨ j = 1 ∨ j = 2 by omega) with rfl | rfl | rfl <;> decide
    have gX4 := kp_same gX3 h4s k3
    walk_at "rd"
    refine ⟨v, t, nw X3 X4, rfl, ⟨nw_sub, tm, wf.wt, tsz, by omega⟩, by omega, fun X5 S5 => ?_⟩
    walk_at "rd"
    refine ⟨s, 2, rfl, src3.same S5, by decide, by decide, fun d6 X6 d3 d4 k6 src6 => ?_⟩
    walk_at "rd"
    obtain ⟨j2, rfl⟩ := Int.eq_ofNat_of_zero_le d3
    have gX6 := kp_same (gX4.trans S5) h4s k6
    refine ⟨s, j2 + 1, by show [V.ref s, V.int ((1 : Int) + (j2 : Int))] = _; rw [show ((1 : Int) + (j2 : Int)) = ((j2 + 1 : Nat) : Int) by omega], src6, by omega, by omega, fun v7 X7 t7 k7 src7 tm7 br7 => ?_⟩
    obtain ⟨w7, z7, p7⟩ := br7
    have z7 : t7.size ≤ 400 := by
      refine Nat.le_trans z7 ?_
      rcases (show j2 = 0 ∨ j2 = 1 by omega) with rfl | rfl <;> decide
    walk_at "rd"
    refine ⟨v7, t7, nw X6 X7, rfl, ⟨nw_sub, tm7, w7, z7, by omega⟩, by omega, fun X8 S8 => ?_⟩
    walk_at "rd"
    exact ⟨_, _, rfl, (kp_same gX6 h4s k7).trans S8⟩
  · rintro σ X ⟨s1, s2, rfl, g⟩
    walk_at "rd"
    exact q _
end
end Vt


set_option Elab.async false
set_option linter.all false
set_option maxRecDepth 100000
set_option maxHeartbeats 4000000

namespace Vt
open PySem PySem.Spec PyProof.Rows L2
/-- a def that keeps a promise, with its own text -/
def DefOkF (P : Program) (w : World) (K : PySem.W.Frag) (mg : Str → Option Value) (base : Heap) (CX : CXT) (k : Nat) (x : Str) (st : Stmt) (ps : List Str) (sp : Sp) : Prop :=
  ∃ f fd, Fun K x x st f fd ∧ FnOk P w K mg base CX k f fd ps sp ∧ mg x = some (.ref f) ∧ PySem.W.keepIn K (.ref f) = true ∧ Binds K fd ps []
theorem DefOkF.to {P : Program} {w : World} {K : PySem.W.Frag} {mg : Str → Option Value} {base : Heap} {CX : CXT} {k : Nat} {x : Str} {st : Stmt} {ps : List Str} {sp : Sp} (h : DefOkF P w K mg base CX k x st ps sp) : DefOk P w K mg base CX k x ps sp := by
  obtain ⟨f, fd, _, r⟩ := h
  exact ⟨f, fd, r⟩
/-! ### rules that the program's own defs want -/
/-- a list or a tuple of these items -/
def Sq (K : PySem.W.Frag) (H : Hp) (a : Addr) (xs : List V) : Prop := SqL K H a xs ∨ SqT K H a xs
theorem Sq.same {K : PySem.W.Frag} {H H' : Hp} {a : Addr} {xs : List V} (h : Sq K H a xs) (s : Same H H') : Sq K H' a xs := h.imp (fun z => s.seq z) (fun z => s.tupS z)
/-- the call of what a slot holds: the promise goes with the address -/
def tHeld (P : Program) (w : World) (K : PySem.W.Frag) (mg : Str → Option Value) (base : Heap) (k i : Nat) (t : TA) : TE := fun σ H Q => ∃ f sp, σ[i]? = some (some (.ref f)) ∧ Held P w K mg base k f sp ∧ t σ H fun vs H1 => sp vs H1 Q (fun _ _ _ => False)
section
variable {X : Cx}
theorem pe_held {k i : Nat} {x : Str} {p pos : Pos} {e : Expr} {es : List Expr} {t : TA} (hr : Room k X.A) (hN : X.N[i]? = some x) (hv : Vis X.env.scope x) (ha : PA X (e :: es) t)
    (hdb : (x == ("__debug__" : Str)) = false := by decide) (hcd : (x == ("__classdict__" : Str)) = false := by decide) (he : starEach (e :: es) X.env = (false, eval e X.env) :: starEach es X.env := by rfl) (hpl : (backTo pos (starEach es X.env)).any (·.1) = false := by rfl) :
    PE X (.Call (.Name x p) (e :: es) [] pos) (tHeld X.prog X.w X.K X.mg X.base k i t) := by
  constructor
  rintro pins s σ H Q I ⟨f, sp, hs, D, ht⟩
  exact (pe_callA (S := fun a => if a = f then some sp else none) (fun g sq e => by
    by_cases z : g = f
    · subst z
      rw [if_pos rfl] at e
      cases e
      exact D
    · rw [if_neg z] at e
      cases e) hr hN hv ha hdb hcd he hpl).run pins s σ H Q I ⟨f, sp, hs, if_pos rfl, ht⟩
/-- xs.extend(ys), ys a list or a tuple -/
theorem ext_any {prog : Program} {w : World} (l : Addr) (its : Array Value) (n : Nat) (b : Addr) (o : Obj) (its2 : Array Value) (n2 : Nat) (hc : o.cls = .type "list" ∨ o.cls = .type "tuple") (hd : o.data = .seq its2 n2)
    (hs0 : ¬(!its.isEmpty && Builtin.List.listTooLong (its.size + its2.size)) = true) (hs1 : its.size ≤ sizeLine) (hs2 : its.size + its2.size ≤ sizeLine + 1) :
    Meets (Builtin.«list.extend» ⟨[.ref l, .ref b], []⟩) (fun _ R s => s.heap.get? l = some { cls := .type "list", dict := none, data := .seq its n, slots := #[] } ∧ s.heap.get? b = some o ∧ R (.ok (.ret Value.none)) { s with heap := s.heap.update l (Obj.mapSeq fun x => x ++ its2), toks := s.toks }) :=
  .of_wp fun prog w A R s h => by
    obtain ⟨hp, g, d, tk, os⟩ := s
    obtain ⟨hl, hb, h⟩ := h
    obtain ⟨oc, od, oda, osl⟩ := o
    have hz' : (its ++ its2).size ≤ sizeLine + 1 := by
      rw [Array.size_append]
      exact hs2
    cases hd
    rcases hc with hc | hc
    · cases hc
      wp_walk using (wpAny_updateSeq hl rfl (hz := hs1) (_hz' := hz')), wpAny_loadPart' hl, wpAny_loadPart' hb
      exact ⟨_, rfl, h⟩
    · cases hc
      wp_walk using (wpAny_updateSeq hl rfl (hz := hs1) (_hz' := hz')), wpAny_loadPart' hl, wpAny_loadPart' hb
      exact ⟨_, rfl, h⟩
def rExtA (K : PySem.W.Frag) : V → List V → Hp → VK → Prop := fun x vs H Q => ∃ l b xs zs, x = .ref l ∧ vs = [.ref b] ∧ H l = some (.lst xs) ∧ Sq K H b zs ∧ xs.length + zs.length ≤ sizeLine ∧ Q .non (upd H l (.lst (xs ++ zs)))
theorem mt_extA : MtM X "list.extend" (rExtA X.K) := by
  intro pins s σ H x vs v us Q I rx rv h
  obtain ⟨l, b, xs, zs, rfl, rfl, hH, hB, hz, q⟩ := h
  cases rx
  obtain ⟨u, rfl, ru⟩ := rv.one
  cases ru
  obtain ⟨z, its, n, r, hl, e⟩ := I.lstM hH
  have hobj : ∃ (its2 : List Value) (o : Obj) (n2 : Nat), Vals zs its2 ∧ s.heap.get? b = some o ∧ (o.cls = .type "list" ∨ o.cls = .type "tuple") ∧ o.data = .seq its2.toArray n2 := by
    rcases hB with hB | hB
    · obtain ⟨i2, r2, ⟨o, n2, e2, c2, _, d2⟩, _⟩ := I.list hB
      exact ⟨i2, o, n2, r2, e2, .inl c2, d2⟩
    · obtain ⟨i2, r2, ⟨o, e2, c2, n2, d2⟩, _⟩ := I.tuple hB
      exact ⟨i2, o, n2, r2, e2, .inr c2, d2⟩
  obtain ⟨its2, o, n2, r2, e2, c2, d2⟩ := hobj
  have hl2 := r2.length
  have hsum : its.toArray.size + its2.toArray.size ≤ sizeLine := by
    simp only [List.size_toArray]
    omega
  have hlong : ¬ (!its.toArray.isEmpty && Builtin.List.listTooLong (its.toArray.size + its2.toArray.size)) = true := by
    rw [notLongL hsum, Bool.and_false]
    decide
  refine call_meets F.slot_list_extend ⟨_, e, rfl⟩ F.entry_list_extend (F.args_list_extend_2 _ _) (ext_any (prog := X.prog) (w := X.w) l its.toArray n b o its2.toArray n2 c2 d2 hlong (by omega) (by omega)) ⟨e, e2, ?_⟩
  exact ⟨.non, _, I.lset (its' := its ++ its2) hH e (by simp) (r.append r2) (by rw [List.length_append]; exact hz), rfl, q⟩
end
/-- a walk over a list or a tuple -/
theorem pi_either {X : Cx} {tg e : Expr} {A B : TI} (a : PI X tg e A) (b : PI X tg e B) : PI X tg e (fun σ H R => A σ H R ∨ B σ H R) := by
  constructor
  rintro pins s σ H R I (h | h)
  · exact a.run pins s σ H R I h
  · exact b.run pins s σ H R I h
/-- .. where all that it walks stands in G -/
theorem for_sq {K : PySem.W.Frag} {a : Addr} {xs : List V} {n : Nat} {g : TG} {tb : TS} {D : Ends} {σ : L2.St} {H G : Hp} (hσ : σ[n]? = some (some (.ref a))) (hq : Sq K G a xs) (Pv : Nat → L2.St → Hp → Prop) (h0 : Pv 0 σ H) (hG : ∀ i σ X, Pv i σ X → Same G X)
    (hs : ∀ i x σ X, xs[i]? = some x → Pv i σ X → g x σ X fun σ2 X2 => tb { D with nx := Pv (i + 1), ct := Pv (i + 1), bk := D.nx } σ2 X2) (hd : ∀ σ X, Pv xs.length σ X → D.nx σ X) :
    tFor (fun σ H R => iList K (tVar n) σ H R ∨ iTup K (tVar n) σ H R) g tb D σ H := by
  rcases hq with hq | hq
  · exact .inl ⟨.ref a, hσ, a, rfl, ⟨xs, (hG 0 σ H h0).seq hq⟩, for_list (K := K) (a := a) (xs := xs) Pv h0 (fun i σ X _ z => (hG i σ X z).seq hq) hs hd⟩
  · exact .inr ⟨.ref a, hσ, a, rfl, ⟨xs, (hG 0 σ H h0).tupS hq⟩, for_tup (K := K) (a := a) (xs := xs) Pv h0 (fun i σ X _ z => (hG i σ X z).tupS hq) hs hd⟩
/-- the first steps of a reading alone -/
theorem gName_to {i : Nat} {v : V} {σ : L2.St} {H : Hp} {Q : L2.St → Hp → Prop} (h : Q (σ.set i (some v)) H) : gName i v σ H Q := h
theorem nx_seq {t u : TS} {D : Ends} {r : VK} {b c : L2.St → Hp → Prop} {σ : L2.St} {H : Hp} (h : t { D with nx := u D } σ H) : Ends.nx { nx := tSeq t u D, rt := r, bk := b, ct := c } σ H := h
theorem nx_one {t : TS} {D : Ends} {r : VK} {b c : L2.St → Hp → Prop} {σ : L2.St} {H : Hp} (h : t D σ H) : Ends.nx { nx := t D, rt := r, bk := b, ct := c } σ H := h
/-! ### names -/
theorem low_az : ∀ c : Nat, 97 ≤ c → c ≤ 122 → Unicode.isAlpha c = true ∧ Unicode.isLower c = true ∧ Unicode.isUpper c = false ∧ Unicode.isTitle c = false := by
  have z : ∀ k : Fin 26, Unicode.isAlpha (97 + k.val) = true ∧ Unicode.isLower (97 + k.val) = true ∧ Unicode.isUpper (97 + k.val) = false ∧ Unicode.isTitle (97 + k.val) = false := by decide +kernel
  intro c h1 h2
  have := z ⟨c - 97, by omega⟩
  rw [show 97 + (c - 97) = c by omega] at this
  exact this
theorem name_len {n : Str} (h : isName n) : n.cps.size = n.length := rfl
theorem name_ascii {n : Str} (h : isName n) : Txt.isascii n = true := by
  unfold Txt.isascii
  rw [← Array.all_toList, List.all_eq_true]
  intro c hc
  have := h.2.2 c hc
  exact decide_eq_true (by omega)
theorem name_alpha {n : Str} (h : isName n) : Txt.isalpha n = true := by
  unfold Txt.isalpha
  rw [Bool.and_eq_true]
  refine ⟨decide_eq_true (by have := h.1; omega), ?_⟩
  rw [← Array.all_toList, List.all_eq_true]
  intro c hc
  have := h.2.2 c hc
  exact (low_az c this.1 this.2).1
theorem name_lower {n : Str} (h : isName n) : Txt.islower n = true := by
  unfold Txt.islower
  rw [Bool.and_eq_true]
  refine ⟨?_, ?_⟩
  · rw [← Array.any_toList, List.any_eq_true]
    have hl : 0 < n.cps.toList.length := by
      have := h.1
      rw [Array.length_toList]
      exact this
    refine ⟨n.cps.toList[0], List.getElem_mem hl, ?_⟩
    have := h.2.2 _ (List.getElem_mem hl)
    exact (low_az _ this.1 this.2).2.1
  · rw [Bool.not_eq_true', ← Array.any_toList, List.any_eq_false]
    intro c hc
    have := h.2.2 c hc
    have z := low_az c this.1 this.2
    rw [z.2.2.1, z.2.2.2]
    decide
theorem strLt_decide {a b : Str} (h : strLt a b) : (!decide (a.cps.toList < b.cps.toList)) = false := by
  have z : a.cps.toList < b.cps.toList := h
  rw [decide_eq_true z]
  rfl
/-! ### the constants of the program -/
structure Cst (mg : Str → Option Value) : Prop where
  nodes : ∃ t, mg "MOST_NODES" = some (.int 400 t)
  depth : ∃ t, mg "MOST_DEPTH" = some (.int 100 t)
  letters : ∃ t, mg "MOST_LETTERS" = some (.int 8 t)
  least : ∃ t, mg "LEAST_ITEMS" = some (.int 2 t)
  items : ∃ t, mg "MOST_ITEMS" = some (.int 6 t)
  fields : ∃ t, mg "MOST_FIELDS" = some (.int 12 t)
  great : ∃ t, mg "GREATEST" = some (.int (10 ^ 30) t)
theorem rel_int {i : Int} {t : Tok} : RelV (.int i) (Value.int i t) := ⟨t, rfl⟩
end Vt


set_option Elab.async false
set_option linter.all false
set_option maxRecDepth 100000
set_option maxHeartbeats 4000000

namespace Vt
open PySem PySem.Spec PyProof.Rows L2 TL
/-! ### ascending lists of texts -/
theorem cps_inj {a b : Str} (h : a.cps.toList = b.cps.toList) : a = b := by
  obtain ⟨⟨a⟩⟩ := a
  obtain ⟨⟨b⟩⟩ := b
  cases h
  rfl
theorem rising_le : ∀ (l : List Str) (p : Str), risingS p l = true → (p :: l).Pairwise (fun a b => a.cps.toList ≤ b.cps.toList)
  | [], p, _ => by simp
  | x :: r, p, h => by
    simp only [risingS, Bool.and_eq_true, Bool.not_eq_true', PyProof.Rows.ltCps_eq, decide_eq_false_iff_not] at h
    have ih := rising_le r x h.2
    refine List.pairwise_cons.mpr ⟨fun y hy => ?_, ih⟩
    have px : p.cps.toList ≤ x.cps.toList := List.not_lt.mp h.1
    rcases List.mem_cons.mp hy with e | hy
    · rw [e]; exact px
    · exact List.le_trans px ((List.pairwise_cons.mp ih).1 y hy)
theorem sorted_le {l : List Str} (h : sortedS l = true) : l.Pairwise (fun a b => a.cps.toList ≤ b.cps.toList) := by
  cases l with
  | nil => exact .nil
  | cons x r => exact rising_le r x h
theorem sorted_same : ∀ {xs ys : List Str}, xs.Pairwise (fun a b => a.cps.toList ≤ b.cps.toList) → ys.Pairwise (fun a b => a.cps.toList ≤ b.cps.toList) → xs.Nodup → ys.Nodup → (∀ x, x ∈ xs ↔ x ∈ ys) → xs = ys
  | [], [], _, _, _, _, _ => rfl
  | [], y :: ys, _, _, _, _, h => absurd ((h y).mpr List.mem_cons_self) List.not_mem_nil
  | x :: xs, [], _, _, _, _, h => absurd ((h x).mp List.mem_cons_self) List.not_mem_nil
  | x :: xs, y :: ys, p, q, n, m, h => by
    have p' := List.pairwise_cons.mp p
    have q' := List.pairwise_cons.mp q
    have n' := List.nodup_cons.mp n
    have m' := List.nodup_cons.mp m
    have e : x = y := by
      rcases List.mem_cons.mp ((h x).mp List.mem_cons_self) with e | hx
      · exact e
      rcases List.mem_cons.mp ((h y).mpr List.mem_cons_self) with e | hy
      · exact e.symm
      exact cps_inj (List.le_antisymm (p'.1 y hy) (q'.1 x hx))
    subst e
    rw [sorted_same p'.2 q'.2 n'.2 m'.2 fun z => ?_]
    constructor
    · intro hz
      rcases List.mem_cons.mp ((h z).mp (List.mem_cons_of_mem _ hz)) with e | hz'
      · exact absurd (by rw [← e]; exact hz) n'.1
      · exact hz'
    · intro hz
      rcases List.mem_cons.mp ((h z).mpr (List.mem_cons_of_mem _ hz)) with e | hz'
      · exact absurd (by rw [← e]; exact hz) m'.1
      · exact hz'
theorem sorted_eq {xs ys : List Str} (p : sortedS xs = true) (q : sortedS ys = true) (n : xs.Nodup) (m : ys.Nodup) (h : ∀ x, x ∈ xs ↔ x ∈ ys) : xs = ys := sorted_same (sorted_le p) (sorted_le q) n m h
theorem asc_nodup {l : List Str} (h : l.Pairwise strLt) : l.Nodup := by
  refine List.Pairwise.imp (R := strLt) (S := fun a b => a ≠ b) (fun {a b} lt e => ?_) h
  subst e
  exact List.lt_irrefl _ (show a.cps.toList < a.cps.toList from lt)
theorem asc_sorted {xs ys : List Str} (p : ys.Perm xs) (s : sortedS ys = true) (h : xs.Pairwise strLt) : ys = xs :=
  sorted_same (sorted_le s) (h.imp fun {a b} lt => List.le_of_lt (show a.cps.toList < b.cps.toList from lt)) (p.nodup_iff.mpr (asc_nodup h)) (asc_nodup h) fun _ => p.mem_iff
/-! ### texts of small letters -/
def lowS (n : Str) : Prop := ∀ c ∈ n.cps.toList, 97 ≤ c ∧ c ≤ 122
theorem low_ascii {n : Str} (h : lowS n) : Txt.isascii n = true := by
  unfold Txt.isascii
  rw [← Array.all_toList, List.all_eq_true]
  intro c hc
  have := h c hc
  exact decide_eq_true (by omega)
theorem low_alpha {n : Str} (h : lowS n) (h1 : 1 ≤ n.length) : Txt.isalpha n = true := by
  unfold Txt.isalpha
  rw [Bool.and_eq_true]
  refine ⟨decide_eq_true (by omega), ?_⟩
  rw [← Array.all_toList, List.all_eq_true]
  intro c hc
  have := h c hc
  exact (low_az c this.1 this.2).1
theorem low_lower {n : Str} (h : lowS n) (h1 : 1 ≤ n.length) : Txt.islower n = true := by
  unfold Txt.islower
  rw [Bool.and_eq_true]
  refine ⟨?_, ?_⟩
  · rw [← Array.any_toList, List.any_eq_true]
    have hl : 0 < n.cps.toList.length := by
      rw [Array.length_toList]
      exact h1
    refine ⟨n.cps.toList[0], List.getElem_mem hl, ?_⟩
    have := h _ (List.getElem_mem hl)
    exact (low_az _ this.1 this.2).2.1
  · rw [Bool.not_eq_true', ← Array.any_toList, List.any_eq_false]
    intro c hc
    have := h c hc
    have z := low_az c this.1 this.2
    rw [z.2.2.1, z.2.2.2]
    decide
theorem tl_mem_app {a b : Str} {c : Nat} (h : c ∈ (a ++ b).cps.toList) : c ∈ a.cps.toList ∨ c ∈ b.cps.toList := by
  have e : (a ++ b).cps.toList = a.cps.toList ++ b.cps.toList := Array.toList_append
  rw [e] at h
  exact List.mem_append.mp h
theorem low_join : ∀ ys : List Str, (∀ n ∈ ys, lowS n) → lowS (Txt.join "" ys)
  | [], _ => fun c h => by
    rw [join_eq] at h
    exact absurd h (by show c ∉ ([] : List Nat); simp)
  | [x], h => by
    rw [join_eq]
    exact h x List.mem_cons_self
  | x :: y :: r, h => by
    rw [join_eq]
    intro c hc
    have e : Str.join "" (x :: y :: r) = x ++ "" ++ Str.join "" (y :: r) := rfl
    rw [e] at hc
    rcases tl_mem_app hc with hc | hc
    · rcases tl_mem_app hc with hc | hc
      · exact h x List.mem_cons_self c hc
      · exact absurd hc (by show c ∉ ([] : List Nat); simp)
    · have ih := low_join (y :: r) fun n m => h n (List.mem_cons_of_mem _ m)
      rw [join_eq] at ih
      exact ih c hc
theorem join_pos : ∀ {ys : List Str}, ys ≠ [] → (∀ n ∈ ys, 1 ≤ n.length) → 1 ≤ (Txt.join "" ys).length
  | [], h, _ => absurd rfl h
  | [x], _, h => by
    rw [join_eq]
    exact h x List.mem_cons_self
  | x :: y :: r, _, h => by
    rw [join_eq]
    have e : Str.join "" (x :: y :: r) = x ++ "" ++ Str.join "" (y :: r) := rfl
    have := h x List.mem_cons_self
    rw [e, Str.length_append, Str.length_append]
    omega
end Vt


set_option Elab.async false
set_option linter.all false
set_option maxRecDepth 100000
set_option maxHeartbeats 4000000
/-! ### sets of texts: made of a list, sorted (as the library does it for ints) -/
namespace PySem.TX
open PySem PySem.Spec PyProof.Rows L2
/-- an entry that holds a text -/
def TxE (P : Program) (w : World) (e : Int × Value) : Prop := ∃ k tk, e.2 = Value.str k tk ∧ e.1 = (PySem.strKind P w).hash k
abbrev txt (e : Int × Value) : Str := strOf e.2
/-- the set of texts at a: its members are those of zs, at most n; its table can be walked -/
def SetT (P : Program) (w : World) (h : Heap) (a : Addr) (zs : List Str) (n : Nat) : Prop :=
  ∃ o es ep t, h.get? a = some o ∧ o.ExactSet ∧ o.data = .set es ep t ∧ (∀ e ∈ es.toList, TxE P w e) ∧ (es.toList.map txt).Nodup ∧ (∀ k, k ∈ zs ↔ k ∈ es.toList.map txt) ∧ es.size ≤ n ∧ n < scanBound ∧ t.fits es.size = true ∧ Ris t.place.toList ∧ (w.params.followText "set-order" = true ∨ t.led = true)
section
variable {P : Program} {w : World} {h h' : Heap} {a : Addr} {zs : List Str} {n : Nat}
theorem SetT.at (R : SetT P w h a zs n) (k : ∀ o, h.get? a = some o → h'.get? a = some o) : SetT P w h' a zs n := (fun ⟨o, es, ep, t, ho, r⟩ => ⟨o, es, ep, t, k o ho, r⟩) R
theorem tx_elems {l : List (Int × Value)} (g : ∀ e ∈ l, TxE P w e) : ElemsOf (PySem.strKind P w) l := fun e he => (fun ⟨k, tk, h1, h2⟩ => ⟨⟨k, by rw [h1]; exact PySem.strKind_is P w k tk, h2⟩, by rw [h1]; rfl⟩) (g e he)
theorem tx_is {e : Int × Value} (g : TxE P w e) (k : Str) : (PySem.strKind P w).is k e.2 = true ↔ txt e = k := by
  obtain ⟨k0, tk, h1, _⟩ := g
  have e1 := PySem.strKind_is P w k0 tk
  unfold txt
  rw [h1]
  constructor
  · intro z
    exact ((PySem.strKind P w).inj _ _ _ z e1).symm
  · intro z
    cases z
    exact e1
theorem tx_mem {l : List (Int × Value)} (g : ∀ e ∈ l, TxE P w e) (k : Str) : k ∈ l.map txt ↔ ∃ e ∈ l, (PySem.strKind P w).is k e.2 = true := by
  rw [List.mem_map]
  exact ⟨fun ⟨e, m, q⟩ => ⟨e, m, (tx_is (g e m) k).mpr q⟩, fun ⟨e, m, q⟩ => ⟨e, m, (tx_is (g e m) k).mp q⟩⟩
end
section
variable {P : Program} {w : World} {A : Around} {E : Value → Shared → Prop} {s : Shared} {a : Addr} {zs : List Str} {n : Nat}
/-- the store, and the new table where the old one is too full -/
theorem tx_tail {g : Bool → Sem Unit} (hg : ∀ (b : Bool) (s₁ : Shared) (Q' : Unit → Shared → Prop), Q' () s₁ → wpAny (model P w) A (g b) Q' E s₁) {o : Obj} {es es1 : Array (Int × Value)} {ep : Nat} {t t2 : SetTable} (ho : s.heap.get? a = some o) (hex : o.ExactSet) (hd : o.data = .set es ep t)
    (g1 : ∀ e ∈ es1.toList, TxE P w e) (nd1 : (es1.toList.map txt).Nodup) (m1 : ∀ k, k ∈ zs ↔ k ∈ es1.toList.map txt) (hn : es1.size ≤ n) (hb : n < scanBound) (hf2 : t2.fits es1.size = true) (hr : Ris t2.place.toList) (hl : w.params.followText "set-order" = true ∨ t2.led = true) {wasDummy : Bool} {R : Option Bool → Shared → Prop}
    (hR : ∀ h', Heap.SameBut a s.heap h' → SetT P w h' a zs n → R (some true) { s with heap := h' }) :
    wpAny (model P w) A (do
        storeSet a es1 t2
        if (!wasDummy && t2.tooFull) = true then do
            g (relayAll t2 es1 (SetTable.grown es1.size)).2.2
            storeSet a (relayAll t2 es1 (SetTable.grown es1.size)).1 (relayAll t2 es1 (SetTable.grown es1.size)).2.1
            pure (some true)
          else pure (some true)) R E s := by
  have b1 : es1.size < scanBound := Nat.lt_of_le_of_lt hn hb
  refine wpAny_bind (wpAny_storeSet_of ho hd ?_ (fits_of_scanBound b1))
  have o1 := L2.store_at (es' := es1) (t' := t2) ho hd
  have k1 := Heap.SameBut.update s.heap a (Obj.putSet es1 t2)
  split
  · have pm := relayAll_perm t2 es1 (SetTable.grown es1.size)
    have f3 := relayAll_fits t2 es1 (SetTable.grown es1.size)
    have r3 := L2.relayAll_ris t2 es1 (SetTable.grown es1.size)
    have l3 := L2.relayAll_led t2 es1 (SetTable.grown es1.size)
    generalize relayAll t2 es1 (SetTable.grown es1.size) = Z at pm f3 r3 l3 ⊢
    obtain ⟨es2, t3, gave⟩ := Z
    dsimp only at pm f3 r3 l3 ⊢
    have z2 : es2.size = es1.size := by rw [← Array.length_toList, pm.length_eq, Array.length_toList]
    refine wpAny_bind (hg _ _ _ (wpAny_bind (wpAny_storeSet_of o1 rfl (wpAny_pure (hR _ (k1.trans (Heap.SameBut.update _ a _)) ?_)) (fits_of_scanBound (by rw [z2]; exact b1)))))
    exact ⟨_, es2, _, t3, L2.store_at (es' := es2) (t' := t3) o1 rfl, hex, rfl, fun e he => g1 e (pm.mem_iff.mp he), (pm.map txt).nodup_iff.mpr nd1, fun k => (m1 k).trans (pm.map txt).mem_iff.symm, by rw [z2]; exact hn, hb, f3, r3, hl.imp id fun z => by rw [l3]; exact z⟩
  · exact wpAny_pure (hR _ k1 ⟨_, es1, _, t2, o1, hex, rfl, g1, nd1, m1, hn, hb, hf2, hr, hl⟩)
/-- one text more -/
theorem tx_add {k : Str} {tk : Tok} {Q : Bool → Shared → Prop} (R : SetT P w s.heap a zs n) (room : n + 1 < scanBound) (hQ : ∀ h' b, Heap.SameBut a s.heap h' → SetT P w h' a (zs ++ [k]) (n + 1) → Q b { s with heap := h' }) :
    wpAny (model P w) A (setAddHashed a (.str k tk) ((PySem.strKind P w).hash k)) Q E s := by
  obtain ⟨o, es, ep, t, ho, hex, hd, g, nd, hm, hn, hb, hf, hr, hl⟩ := R
  have key : (PySem.strKind P w).is k (.str k tk) = true := PySem.strKind_is P w k tk
  have sc : (Value.str k tk).scannable = true := rfl
  have el : ElemsOf (PySem.strKind P w) es.toList := tx_elems g
  have esb : es.size < scanBound := Nat.lt_of_le_of_lt hn hb
  unfold setAddHashed setAddHashedIn
  refine wpAny_holding (wpAny_bind (wpAny_setState_of ho hd hf ?_))
  dsimp only
  rw [byScan_of sc esb el]
  simp only [↓reduceIte]
  unfold setAddByScan
  refine wpAny_bind (wpAny_bind (wpAny_rule (wpAny_bind (wpAny_setScan_of key ho hd hf el ?_))))
  cases hfi : List.findIdx? (fun e => (PySem.strKind P w).is k e.2) es.toList with
  | some j =>
    dsimp only
    obtain ⟨hj, pj, _⟩ := List.findIdx?_eq_some_iff_getElem.mp hfi
    have old : k ∈ zs := (hm k).mpr ((tx_mem (P := P) (w := w) g k).mpr ⟨es.toList[j], List.getElem_mem hj, pj⟩)
    refine wpAny_pure (wpAny_pure ?_)
    exact hQ s.heap _ (Heap.SameBut.refl a s.heap) ⟨o, es, ep, t, ho, hex, hd, g, nd, fun i => by
      rw [← hm i, List.mem_append, List.mem_singleton]
      exact ⟨fun z => z.elim id fun e => by rw [e]; exact old, .inl⟩, by omega, room, hf, hr, hl⟩
  | none =>
    dsimp only
    have fresh : k ∉ es.toList.map txt := fun z => by
      obtain ⟨e, he, q⟩ := (tx_mem (P := P) (w := w) g k).mp z
      have c := List.findIdx?_eq_none_iff.mp hfi e he
      rw [q] at c
      cases c
    have way : ∀ (b : Bool) {s₁ : Shared} {Q' : Unit → Shared → Prop}, Q' () s₁ → wpAny (model P w) A (match b with | true => rule "set.scan.the-table-gave-way" | false => pure ()) Q' E s₁ := fun b s₁ Q' q => by (cases b; exact wpAny_pure q; exact wpAny_rule q)
    have pm := layNew_perm t es ((PySem.strKind P w).hash k) (.str k tk)
    have f1 := layNew_fits t es ((PySem.strKind P w).hash k) (.str k tk)
    have r1 := L2.layNew_ris t es ((PySem.strKind P w).hash k) (.str k tk) hr
    have l1 := L2.layNew_led t es ((PySem.strKind P w).hash k) (.str k tk)
    generalize layNew t es ((PySem.strKind P w).hash k) (.str k tk) = Z at pm f1 r1 l1 ⊢
    obtain ⟨es1, t1, wasDummy, gave⟩ := Z
    dsimp only at pm f1 r1 l1 ⊢
    rw [Array.toList_push] at pm
    have pc : es1.toList.Perm (((PySem.strKind P w).hash k, Value.str k tk) :: es.toList) := pm.trans (List.perm_append_singleton _ _)
    have pk : (es1.toList.map txt).Perm (k :: es.toList.map txt) := pc.map txt
    have g1 : ∀ e ∈ es1.toList, TxE P w e := fun e he => (List.mem_cons.mp (pc.mem_iff.mp he)).elim (fun z => by rw [z]; exact ⟨k, tk, rfl, rfl⟩) fun z => g e z
    have nd1 : (es1.toList.map txt).Nodup := pk.nodup_iff.mpr (List.nodup_cons.mpr ⟨fresh, nd⟩)
    have m1 : ∀ i, i ∈ zs ++ [k] ↔ i ∈ es1.toList.map txt := fun i => by
      rw [pk.mem_iff, List.mem_cons, List.mem_append, List.mem_singleton, hm i]
      exact Or.comm
    have z1 : es1.size = es.size + 1 := by rw [← Array.length_toList, pc.length_eq, List.length_cons, Array.length_toList]
    have led : w.params.followText "set-order" = true ∨ t1.led = true := hl.imp id fun z => by rw [l1]; exact z
    refine wpAny_bind (way _ ?_)
    split
    · refine wpAny_bind ?_
      rw [hashByValue_scannable 8 sc]
      refine wpAny_pure (tx_tail ?_ ho hex hd g1 nd1 m1 (by omega) room ?_ ?_ ?_ ?_)
      · intro b s₁ Q' q; (cases b; exact wpAny_pure q; exact wpAny_rule q)
      · first | (split <;> first | exact f1 | exact SetTable.fits_plain_off f1) | exact f1
      · first | (split <;> exact r1) | exact r1
      · first | (split <;> exact led) | exact led
      · exact fun h' sb r => wpAny_pure (hQ h' _ sb r)
    · refine wpAny_bind (wpAny_pure ?_)
      simp only [↓reduceIte]
      refine tx_tail ?_ ho hex hd g1 nd1 m1 (by omega) room f1 r1 led fun h' sb r => wpAny_pure (hQ h' _ sb r)
      intro b s₁ Q' q; (cases b; exact wpAny_pure q; exact wpAny_rule q)
end
end PySem.TX


set_option Elab.async false
set_option linter.all false
set_option maxRecDepth 100000
set_option maxHeartbeats 4000000
namespace PySem.TX
open PySem PySem.Spec PyProof.Rows L2
section
variable {P : Program} {w : World} {A : Around} {R : Result → Shared → Prop} {I : Addr} {fp wr : List Addr} {G : Array GenState → Array GenState → Prop} {n : Nat} {Pv : Nat → Value → Prop} {St : Nat → Shared → Prop}
/-- all that an iterator yields is added -/
theorem tx_loop (W : WalksS P w A.in1 I fp wr G n Pv St) (S : Addr) (hSf : S ∉ fp) (xs : List Str) (hlen : xs.length = n) (hval : ∀ i v, Pv i v → ∃ x t, xs[i]? = some x ∧ v = .str x t) (hb : n < scanBound) :
    ∀ (k i : Nat) (s : Shared), n - i = k → i ≤ n → St i s → SetT P w s.heap S (xs.take i) i → (∀ s', Moved (S :: wr) G s s' → SetT P w s'.heap S xs n → R (.ok (.ret .none)) s') →
      codeAny (model P w) A (.builtin "set.update.loop" ⟨[.ref S, .ref I], []⟩) R s := by
  have notW : S ∉ wr := fun h => hSf (W.sub _ h)
  have more : ∀ b ∈ wr, b ∈ S :: wr := fun b hb => List.mem_cons_of_mem _ hb
  intro k
  induction k with
  | zero =>
    intro i s hk hi hst hS hR
    obtain rfl : i = n := by omega
    refine codeAny_builtin PyProof.Rows.F.entry_set_update_loop ?_
    rw [Around.under_plainId PyProof.Rows.F.plain_set_update_loop _]
    show wpAny _ A.in1 (pyNext (.ref I) >>= _) _ _ s
    refine wpAny_bind (W.done s _ _ hst fun s1 hm => (show wpAny _ A.in1 (ret Value.none) _ _ s1 from wpAny_pure (hR s1 (hm.mono more) ?_)))
    rw [List.take_of_length_le (by omega)] at hS
    exact hS.at fun o e => hm.heap S _ notW e
  | succ k ih =>
    intro i s hk hi hst hS hR
    have lt : i < n := by omega
    refine codeAny_builtin PyProof.Rows.F.entry_set_update_loop ?_
    rw [Around.under_plainId PyProof.Rows.F.plain_set_update_loop _]
    show wpAny _ A.in1 (pyNext (.ref I) >>= _) _ _ s
    refine wpAny_bind (W.item i s _ _ lt hst fun v s1 hP hst1 hm => ?_)
    obtain ⟨x, t, ex, rfl⟩ := hval i v hP
    have hS1 : SetT P w s1.heap S (xs.take i) i := hS.at fun o e => hm.heap S _ notW e
    show wpAny _ A.in1 (holding [Value.str x t] (setAdd S (.str x t)) >>= _) _ _ s1
    refine wpAny_bind (wpAny_holding ?_)
    unfold setAdd
    refine wpAny_holding (wpAny_bind ((PySem.strKind P w).pyHash (k := x) (PySem.strKind_is _ _ _ _) ?_))
    refine tx_add (s := { s1 with toks := s1.toks + 1 }) hS1 (by omega) fun h2 b sb hS2 => ?_
    have hS3 : SetT P w h2 S (xs.take (i + 1)) (i + 1) := by
      rw [List.take_add_one, ex]
      exact hS2
    refine wpAny_pure ⟨plainId_quiet PyProof.Rows.F.plain_set_update_loop _, ih (i + 1) _ (by omega) lt (W.frame _ s1 _ _ hst1 (Nat.le_succ _) fun b hb o e => ?_) hS3 fun s3 hm3 hS4 => hR s3 (Moved.trans W.gtrans ((hm.mono more).then_heap (Nat.le_succ _) fun b o hb e => ?_) hm3) hS4⟩
    · exact (sb.2 b fun z => hSf (by rw [← z]; exact hb)).trans e
    · exact (sb.2 b fun z => hb (by rw [z]; exact List.mem_cons_self)).trans e
end
section
variable {P : Program} {w : World} {A : Around} {E : Value → Shared → Prop} {s : Shared}
/-- a new set, its mark as the world has it -/
theorem tx_new (a : Value) {Q₁ : Value → Shared → Prop} (h : Q₁ (.ref s.heap.objs.size) { s with heap := s.heap.push { cls := .type "set", dict := none, data := .set #[] 0 (.fresh 0 0 (!w.params.followText "set-order")) } }) :
    codeAny (model P w) A (.call (.builtin "set.__new__") ⟨[.type "set", a], []⟩) (wants Q₁ E) s := by
  refine codeAny_of_tree (show wpAny _ A.in1 (do checkBuiltinCall "set.__new__" ⟨[.type "set", a], []⟩; again (.builtin "set.__new__" ⟨[.type "set", a], []⟩)) _ _ s from ?_)
  refine wpAny_bind (wpAny_of_eq (PySem.F.newCall_set_1 a) (wpAny_pure ⟨plainId_quiet F.plain_set_new _, codeAny_builtin F.entry_set_new ?_⟩))
  rw [Around.under_plainId F.plain_set_new _]
  unfold Builtin.«set.__new__» Builtin.Frozenset.newClass
  have sub := sub_set_self
  obtain ⟨hp, g, d, tk, os⟩ := s
  dsimp only
  wp_walk
  refine wpAny_askSetting (wpAny_pure ?_)
  dsimp only
  simp only [newObj]
  exact wpAny_bind (wpAny_alloc (wpAny_pure (wpAny_pure h)))
theorem tx_fresh {h : Heap} : SetT P w (h.push { cls := .type "set", dict := none, data := .set #[] 0 (.fresh 0 0 (!w.params.followText "set-order")) }) h.objs.size [] 0 :=
  ⟨_, #[], 0, _, Heap.get?_push_size _ rfl, ⟨rfl, rfl, rfl⟩, rfl, (fun e he => by simp at he), (by simp), (fun k => by simp), (Nat.le_refl _), (by decide), (by rfl), List.Pairwise.nil, by
    show _ ∨ (!w.params.followText "set-order") = true
    cases w.params.followText "set-order" <;> simp⟩
end
end PySem.TX


set_option Elab.async false
set_option linter.all false
set_option maxRecDepth 100000
set_option maxHeartbeats 4000000
namespace PySem.TX
open PySem PySem.Spec PyProof.Rows L2
theorem strs_get : ∀ {us : List Value} {xs : List Str}, StrsAre us xs → ∀ (i : Nat) (v : Value), us[i]? = some v → ∃ x t, xs[i]? = some x ∧ v = .str x t
  | _, _, .nil, i, v, h => by simp at h
  | _, _, .cons x t r, 0, v, h => ⟨x, t, rfl, (Option.some.inj h).symm⟩
  | _, _, .cons x t r, i + 1, v, h => strs_get r i v (by simpa using h)
section
variable {P : Program} {w : World} {A : Around} {E : Value → Shared → Prop} {s : Shared}
set_option maxHeartbeats 8000000 in
/-- set(xs), xs a list of texts -/
theorem tx_call {l : Addr} {items : Array Value} {xs : List Str} {Q : Value → Shared → Prop} (hh : A.handled = none) (hl : s.heap.IsList l items) (hi : StrsAre items.toList xs) (hb : items.size < scanBound)
    (h : ∀ (h' : Heap) (tk : Nat), SetT P w h' s.heap.objs.size xs items.size → (∀ b o, b < s.heap.objs.size → s.heap.get? b = some o → h'.get? b = some o) → Q (.ref s.heap.objs.size) { s with heap := h', toks := tk }) :
    wpAny (model P w) A (call (.type "set") [.ref l]) Q E s := by
  obtain ⟨cc, tl, hmro⟩ := PySem.F.called_set.mro
  have made := PySem.F.called_set.made
  have sub := PySem.F.called_set.sub
  refine wpAny_call (codeAny_of_tree (show wpAny _ _ (callAny (.type "set") _) _ _ _ from ?_))
  refine wpAny_pure ⟨Code.quiet_builtin _ (by decide +kernel), codeAny_builtin PySem.F.entry_type_call ?_⟩
  rw [Around.under_plain (weight_type_call_type "set" [.ref l] []) rfl]
  have no := PySem.F.called_set.notType
  have can := PySem.F.called_set.canCreate
  have chk := PySem.F.typeCall_set_1 (.ref l)
  repeat (any_goals (first | assumption | wp_step))
  let O : Obj := { cls := .type "set", dict := none, data := .set #[] 0 (.fresh 0 0 (!w.params.followText "set-order")) }
  refine codeAny_mono (tx_new (P := P) (w := w) (.ref l) (E := E) (Q₁ := fun obj s₁ => obj = .ref s.heap.objs.size ∧ s₁ = { s with heap := s.heap.push { cls := .type "set", dict := none, data := .set #[] 0 (.fresh 0 0 (!w.params.followText "set-order")) } }) ⟨rfl, rfl⟩) fun r s₁ hr => ?_
  clear O
  cases r with
  | error e => exact hr
  | ok fl =>
    cases fl with
    | ret obj =>
      obtain ⟨rfl, rfl⟩ := hr
      have fr : SetT P w (s.heap.push { cls := .type "set", dict := none, data := .set #[] 0 (.fresh 0 0 (!w.params.followText "set-order")) }) s.heap.objs.size [] 0 := tx_fresh
      have hS : (s.heap.push { cls := .type "set", dict := none, data := .set #[] 0 (.fresh 0 0 (!w.params.followText "set-order")) }).get? s.heap.objs.size = some { cls := .type "set", dict := none, data := .set #[] 0 (.fresh 0 0 (!w.params.followText "set-order")) } := Heap.get?_push_size _ rfl
      generalize (!w.params.followText "set-order") = led at hS fr ⊢
      have hT : Shared.TypeIs { s with heap := s.heap.push { cls := .type "set", dict := none, data := .set #[] 0 (.fresh 0 0 led) } } (.ref s.heap.objs.size) "set" := ⟨_, hS, rfl⟩
      have li := PySem.F.called_set.init.lookup
      have bi := PySem.F.called_set.init.bind (.ref s.heap.objs.size)
      repeat (any_goals (first | assumption | wp_step))
      refine codeAny_mono (codeAny_call_builtin (R := wants (fun r s₂ => r = .none ∧ ∃ h' tk, s₂ = { s with heap := h', toks := tk } ∧ SetT P w h' s.heap.objs.size xs items.size ∧ (∀ b o, b < s.heap.objs.size → s.heap.get? b = some o → h'.get? b = some o)) E) PySem.F.called_set.init.plain PySem.F.entry_set_init (check_set_init_1 hT ?_)) fun r₂ s₂ hr₂ => ?_
      · obtain ⟨ol, hol, hcl, nl, hdl⟩ := hl
        obtain ⟨oc, od, oda, osl⟩ := ol
        simp only at hcl hdl
        subst hcl; subst hdl
        have hol1 : (s.heap.push { cls := .type "set", dict := none, data := .set #[] 0 (.fresh 0 0 led) }).get? l = some { cls := .type "list", dict := od, data := .seq items nl, slots := osl } := Heap.get?_push_of_some _ hol
        have d1 := PySem.F.sub_list_set
        have d2 := PySem.F.sub_list_frozenset
        have d3 : (Value.type "list" == Value.type "dict") = false := by decide
        have hl1 : (s.heap.push { cls := .type "set", dict := none, data := .set #[] 0 (.fresh 0 0 led) }).IsList l items := ⟨_, hol1, rfl, nl, rfl⟩
        unfold Builtin.«set.__init__» noKeywords Builtin.Frozenset.updateFrom
        generalize hPI : pyIter = PI
        wp_walk
        subst hPI
        refine wpAny_pyIter_list hl1 (wpAny_bind (wpAny_runValue ?_))
        have hlS : l < s.heap.objs.size := Heap.lt_size hol
        have h3 : A.in1.in1.in1.handled = none := by simp [hh]
        have ez : (s.heap.push { cls := .type "set", dict := none, data := .set #[] 0 (.fresh 0 0 led) }).objs.size = s.heap.objs.size + 1 := Heap.size_push _ _
        have neI : l ≠ (s.heap.push { cls := .type "set", dict := none, data := .set #[] 0 (.fresh 0 0 led) }).objs.size := by
          rw [ez]
          exact Nat.ne_of_lt (Nat.lt_succ_of_lt hlS)
        have notF : s.heap.objs.size ∉ [(s.heap.push { cls := .type "set", dict := none, data := .set #[] 0 (.fresh 0 0 led) }).objs.size, l] := by
          rw [ez]
          simp only [List.mem_cons, List.not_mem_nil, or_false, not_or]
          exact ⟨Nat.ne_of_lt (Nat.lt_succ_self _), Nat.ne_of_gt hlS⟩
        have hlen : xs.length = items.size := by rw [← StrsAre.len_eq hi, Array.length_toList]
        refine tx_loop (P := P) (w := w) ((Walks.list h3 _ l neI items).toS) s.heap.objs.size notF xs hlen (fun i v hv => strs_get hi i v (by rw [Array.getElem?_toList]; exact hv)) hb (items.size - 0) 0 _ (by omega) (Nat.zero_le _) ⟨⟨_, Heap.get?_push_size _ rfl, rfl, rfl⟩, (hl1.push _)⟩ ?hS0 ?hR
        case hS0 => exact fr.at fun o e => Heap.get?_push_of_some _ e
        case hR =>
          intro s1 hm hS1
          obtain ⟨h1, g1, d1, tk1, os1⟩ := s1
          cases (show g1 = s.gens from hm.gens)
          cases (show d1 = s.drawn from hm.drawn)
          cases (show os1 = s.os from hm.os)
          show wpAny _ _ _ _ _ _
          refine wpAny_pure (show wpAny _ _ (ret Value.none) _ _ _ from wpAny_pure ⟨rfl, h1, tk1, rfl, hS1, fun b o hb1 e => ?_⟩)
          refine hm.heap b o ?_ (Heap.get?_push_of_some _ (Heap.get?_push_of_some _ e))
          rw [ez]
          simp only [List.mem_cons, List.not_mem_nil, or_false, not_or]
          exact ⟨Nat.ne_of_lt hb1, Nat.ne_of_lt (Nat.lt_succ_of_lt hb1)⟩
      · cases r₂ with
        | error e => exact hr₂
        | ok fl₂ =>
          cases fl₂ with
          | ret r =>
            obtain ⟨rfl, h1, tk1, rfl, hS1, hk1⟩ := hr₂
            repeat (any_goals (first | assumption | wp_step))
            exact h _ _ hS1 hk1
          | _ => exact hr₂.elim
    | _ => exact hr.elim
/-- sorted(found) of such a set -/
theorem tx_sorted {a : Addr} {zs : List Str} {n : Nat} {Q : Value → Shared → Prop} (R : SetT P w s.heap a zs n) (hh : A.handled = none)
    (hQ : ∀ s' p (out : Array Value) (c : Nat) (ys : List Str), (∀ b o, s.heap.get? b = some o → s'.heap.get? b = some o) → s'.gens = s.gens → s'.os = s.os → s.heap.objs.size ≤ p → s'.heap.get? p = some (seqObj "list" out c) → StrsAre out.toList ys → sortedS ys = true → ys.Nodup → (∀ k, k ∈ ys ↔ k ∈ zs) → ys.length ≤ n → Q (.ref p) s') :
    wpAny (model P w) A (call (.builtin "sorted") [.ref a]) Q E s := by
  obtain ⟨o, es, ep, t, ho, hex, hd, g, nd, hm, hn, hb, hf, hr, hl⟩ := R
  have esb : es.size < scanBound := Nat.lt_of_le_of_lt hn hb
  refine Calls.call_function_entry kind_sorted plain_sorted entry_sorted (args_sorted1 _) ?_
  unfold Builtin.«sorted»
  refine wpAny_bind (m := checkCount "sorted" 1 1 _) (wpAny_pure (wpAny_bind (L2.collect_set (A := A.in1) hh ⟨o, ho, hex.1, hd⟩ hf esb hr hl fun s1 vs k1 hz g1 o1 pm => ?_)))
  have vl : vs.length ≤ sizeLine := by rw [pm.length_eq, List.length_map, Array.length_toList]; exact fits_of_scanBound esb
  have hS : StrsAre vs (vs.map strOf) := strsAre_map vs fun v hv => by
    obtain ⟨e, he, q⟩ := List.mem_map.mp (pm.mem_iff.mp hv)
    obtain ⟨k, tk, h1, _⟩ := g e he
    exact ⟨k, tk, by rw [← q]; exact h1⟩
  have pk : (vs.map strOf).Perm (es.toList.map txt) := by
    have q := pm.map strOf
    rw [List.map_map] at q
    exact q
  refine wpAny_bind (wpAny_newList ?_ vl)
  have hoL : (s1.heap.push (seqObj "list" vs.toArray 0)).get? s1.heap.objs.size = some (seqObj "list" vs.toArray 0) := Heap.get?_push_size _ rfl
  refine wpAny_bind (wpAny_holding (wpAny_call_entry slot_list_sort ⟨_, hoL, rfl⟩ entry_list_sort (list_sort_treeKAny strKind_oneLt hoL hS.keysOf (fun v1 v2 rest e => keyKind_strs (by rw [← e]; exact hS)) vl fun st a1 a2 => ⟨_, rfl, ?_⟩) (args_list_sort _)))
  obtain ⟨ys, y1, y2, y3⟩ := sorted_out_str hS a1 a2
  obtain ⟨c, hc⟩ := sortedHeap_at (vs := vs) (out := (arrOf st).map (·.2)) hoL
  have pn : ys.Perm (es.toList.map txt) := y2.trans pk
  refine wpAny_pure ⟨_, rfl, hQ _ s1.heap.objs.size _ c ys (fun b u e => ?_) g1 o1 hz hc y1 y3 (pn.nodup_iff.mpr nd) (fun k => by rw [pn.mem_iff, ← hm k]) (by rw [pn.length_eq, List.length_map, Array.length_toList]; exact hn)⟩
  have q := k1 b u e
  have lt := Heap.lt_size q
  show (sortedHeap (s1.heap.push (seqObj "list" vs.toArray 0)) s1.heap.objs.size vs _).get? b = some u
  rw [sortedHeap_old (Nat.ne_of_lt lt) (by rw [size_push']; exact Nat.lt_succ_of_lt lt)]
  exact Heap.get?_push_of_some _ q
end
end PySem.TX


set_option Elab.async false
set_option linter.all false
set_option maxRecDepth 100000
set_option maxHeartbeats 4000000

namespace Vt
open PySem PySem.Spec PyProof.Rows L2 PySem.TX
/-! ### set(xs) and len(set(xs)), xs a list of texts -/
/-- the set of texts at a -/
def SetX (P : Program) (w : World) (a : Addr) (zs : List Str) (n : Nat) : HO := .ext fun h => SetT P w h a zs n
theorem setX_new {w : World} {P : Program} {H : Hp} {h : Heap} {a : Addr} {zs : List Str} {n : Nat} (R : SetT P w h a zs n) : ObjOk P w H h a (SetX P w a zs n) :=
  (fun ⟨o, _, _, _, ho, _⟩ => ⟨R, ⟨o, ho⟩, fun h1 h2 p k => p.at k⟩) R
def rSetTx (K : PySem.W.Frag) (P : Program) (w : World) : List V → Hp → VK → Prop := fun xs H Q => ∃ (l : Addr) (zs : List Str), xs = [V.ref l] ∧ SqL K H l (zs.map V.str) ∧ zs.length < 4000 ∧ ∀ p, H p = none → Q (.ref p) (upd H p (SetX P w p zs zs.length))
def rSortTx (P : Program) (w : World) : List V → Hp → VK → Prop := fun vs H Q => ∃ (a : Addr) (zs : List Str) (n : Nat), vs = [V.ref a] ∧ H a = some (SetX P w a zs n) ∧ n < 4000 ∧ ∀ (ys : List Str) (p : Addr), sortedS ys = true → ys.Nodup → (∀ k, k ∈ ys ↔ k ∈ zs) → H p = none → Q (.ref p) (upd H p (.lst (ys.map V.str)))
def rLenTx (P : Program) (w : World) : List V → Hp → VK → Prop := fun vs H Q => ∃ (a : Addr) (zs : List Str) (n : Nat), vs = [V.ref a] ∧ H a = some (SetX P w a zs n) ∧ zs.Nodup ∧ n < 4000 ∧ Q (.int zs.length) H
section
variable {X : Cx}
theorem cr_setTx (hc : X.calm = true) : CallR X (.type "set") (rSetTx X.K X.prog X.w) := by
  rintro pins s σ H vs us Q I r ⟨l, zs, rfl, hl, hz, q⟩
  obtain ⟨its, rv, pl, _⟩ := I.list hl
  rw [Vals.ref1 r]
  have len := rv.length
  rw [List.length_map] at len
  refine tx_call (P := X.prog) (w := X.w) (I.ok.hd hc) pl.isList rv.strs (by rw [List.size_toArray, ← len]; unfold scanBound; omega) fun h1 tk hS hk => ?_
  have ez : its.toArray.size = zs.length := by rw [List.size_toArray, len]
  rw [ez] at hS
  exact ⟨.ref _, upd H s.heap.objs.size (SetX X.prog X.w s.heap.objs.size zs zs.length), I.laid (t' := tk) (fun b u e => hk b u (Heap.lt_size e) e) (Nat.le_refl _) (setX_new hS), rfl, q _ (I.hok.fresh (Nat.le_refl _))⟩
theorem cr_lenTx : CallR X (.builtin "len") (rLenTx X.prog X.w) := by
  rintro pins s σ H vs us Q I r ⟨a, zs, n, rfl, ha, hnd, hn, q⟩
  have R : SetT X.prog X.w s.heap a zs n := (I.hok a _ ha).1
  rw [Vals.ref1 r]
  obtain ⟨o, es, ep, t, ho, hex, hd, g, nd, hm, hz, hb, hf, hr, hl⟩ := R
  have e : es.size = zs.length := by
    have p : (es.toList.map txt).Perm zs := (List.perm_ext_iff_of_nodup nd hnd).mpr fun k => (hm k).symm
    have := p.length_eq
    rw [List.length_map, Array.length_toList] at this
    exact this
  refine call_len_set ho hex hd hf (by omega) ⟨.int zs.length, H, I.tok _, ⟨_, by rw [e]⟩, q⟩
theorem cr_sortedTx (hc : X.calm = true) : CallR X (.builtin "sorted") (rSortTx X.prog X.w) := by
  rintro pins s σ H vs us Q I r ⟨a, zs, n, rfl, ha, hn, q⟩
  have R : SetT X.prog X.w s.heap a zs n := (I.hok a _ ha).1
  rw [Vals.ref1 r]
  refine tx_sorted R (I.ok.hd hc) fun s1 p out c ys k g o hp hg hi hs hnd hm hl => ?_
  have hlen : (ys.map V.str).length ≤ sizeLine := by rw [List.length_map, sizeLine_eq]; omega
  have free : H p = none := I.hok.fresh hp
  have J : Inv X pins σ (upd H p (.lst (ys.map V.str))) { s with heap := s1.heap, gens := s1.gens, drawn := s1.drawn, toks := s1.toks } :=
    I.call (ch := []) (Un.laid k hp free) (I.hok.laid k hp ⟨hlen, out.toList, c, vals_of_strs hi, hg⟩) (by rw [g]; exact I.bare) (fun _ z => nomatch z)
  have e : s1 = { s with heap := s1.heap, gens := s1.gens, drawn := s1.drawn, toks := s1.toks } := by
    cases s1; cases s; cases o
    rfl
  rw [e]
  exact ⟨.ref p, _, J, rfl, q ys p hs hnd hm free⟩
end
end Vt


set_option Elab.async false
set_option linter.all false
set_option maxRecDepth 100000
set_option maxHeartbeats 4000000

namespace Vt
open PySem PySem.Spec PyProof.Rows L2 TL
/-! ### what is a name, a field, an integer in a range -/
def spIsName : Sp := fun vs H Q _ => ∃ n : Str, vs = [.str n] ∧ isName n ∧ ∀ H', Same H H' → Q (.bl true) H'
def spAsc (K : PySem.W.Frag) : Sp := fun vs H Q _ => ∃ (l : Addr) (ls : List Str), vs = [.ref l] ∧ SqL K H l (ls.map V.str) ∧ ls.length ≤ 12 ∧ (∀ n ∈ ls, isName n) ∧ ls.Pairwise strLt ∧ ∀ H', Same H H' → Q (.bl true) H'
def spAreNames (K : PySem.W.Frag) : Sp := fun vs H Q _ => ∃ (l : Addr) (ls : List Str), vs = [.ref l] ∧ SqL K H l (ls.map V.str) ∧ ls.length ≤ 12 ∧ (∀ n ∈ ls, isName n) ∧ ∀ H', Same H H' → Q (.bl true) H'
def spAreFields (K : PySem.W.Frag) : Sp := fun vs H Q _ => ∃ (l : Addr) (bs : List Addr) (ls : List Str) (us : List V), vs = [.ref l, .int 12] ∧ SqL K H l (bs.map V.ref) ∧ bs.length ≤ 12 ∧ ls.length = bs.length ∧ us.length = bs.length ∧
  (∀ (i : Nat) (b : Addr) (n : Str) (u : V), bs[i]? = some b → ls[i]? = some n → us[i]? = some u → SqT K H b [.str n, u]) ∧ (∀ n ∈ ls, isName n) ∧ ls.Pairwise strLt ∧ ∀ H', Same H H' → Q (.bl true) H'
def spAreItems (K : PySem.W.Frag) : Sp := fun vs H Q _ => ∃ (l : Addr) (xs : List V), vs = [.ref l] ∧ SqL K H l xs ∧ 2 ≤ xs.length ∧ xs.length ≤ 6 ∧ ∀ H', Same H H' → Q (.bl true) H'
def spBegins (K : PySem.W.Frag) : Sp := fun vs H Q _ => ∃ (a : Addr) (xs : List V), vs = [.ref a] ∧ SqT K H a (.str "fun" :: xs) ∧ ∀ H', Same H H' → Q (.bl true) H'
def spIsInt : Sp := fun vs H Q _ => ∃ i : Int, vs = [.int i] ∧ ∀ H', Same H H' → Q (.bl true) H'
def spWithin : Sp := fun vs H Q _ => ∃ i lo hi : Int, vs = [.int i, .int lo, .int hi] ∧ lo ≤ i ∧ i ≤ hi ∧ ∀ H', Same H H' → Q (.bl true) H'
abbrev s_is_integer : Stmt := topS 6
abbrev N_is_integer : List Str := ["value"]
theorem sc_is_integer : FnScope N_is_integer ["value"] (defScope s_is_integer) := ⟨rfl, rfl, rfl, by decide +kernel, rfl, by decide +kernel, by decide +kernel⟩
abbrev s_is_integer_within : Stmt := topS 7
abbrev N_is_integer_within : List Str := ["value", "least", "greatest"]
theorem sc_is_integer_within : FnScope N_is_integer_within ["value", "least", "greatest"] (defScope s_is_integer_within) := ⟨rfl, rfl, rfl, by decide +kernel, rfl, by decide +kernel, by decide +kernel⟩
abbrev s_is_name : Stmt := topS 16
abbrev N_is_name : List Str := ["value"]
theorem sc_is_name : FnScope N_is_name ["value"] (defScope s_is_name) := ⟨rfl, rfl, rfl, by decide +kernel, rfl, by decide +kernel, by decide +kernel⟩
abbrev s_are_names : Stmt := topS 17
abbrev N_are_names : List Str := ["values", "value", "letters"]
theorem sc_are_names : FnScope N_are_names ["values"] (defScope s_are_names) := ⟨rfl, rfl, rfl, by decide +kernel, rfl, by decide +kernel, by decide +kernel⟩
abbrev s_are_ascending : Stmt := topS 18
abbrev N_are_ascending : List Str := ["names"]
theorem sc_are_ascending : FnScope N_are_ascending ["names"] (defScope s_are_ascending) := ⟨rfl, rfl, rfl, by decide +kernel, rfl, by decide +kernel, by decide +kernel⟩
abbrev s_are_fields : Stmt := topS 19
abbrev N_are_fields : List Str := ["value", "most", "names", "field"]
theorem sc_are_fields : FnScope N_are_fields ["value", "most"] (defScope s_are_fields) := ⟨rfl, rfl, rfl, by decide +kernel, rfl, by decide +kernel, by decide +kernel⟩
abbrev s_are_items : Stmt := topS 20
abbrev N_are_items : List Str := ["value"]
theorem sc_are_items : FnScope N_are_items ["value"] (defScope s_are_items) := ⟨rfl, rfl, rfl, by decide +kernel, rfl, by decide +kernel, by decide +kernel⟩
abbrev s_begins_as_function : Stmt := topS 21
abbrev N_begins_as_function : List Str := ["value"]
theorem sc_begins_as_function : FnScope N_begins_as_function ["value"] (defScope s_begins_as_function) := ⟨rfl, rfl, rfl, by decide +kernel, rfl, by decide +kernel, by decide +kernel⟩
section
variable {P : Program} {w : World} {K : PySem.W.Frag} {mg : Str → Option Value} {base : Heap}
theorem ok_is_integer (S : Stands K mg "is_integer" s_is_integer ["value"]) (Z : Blt mg) : DefOk P w K mg base CX0 1 "is_integer" ["value"] spIsInt := by
  have z_isinstance := Z.isinstance
  have z_int := Z.int
  have z_bool := Z.bool
  obtain ⟨f, fd, F, hm, hb⟩ := S
  refine ⟨f, fd, ?_, hm, F.kp, hb⟩
  have nd := sc_is_integer.nd
  refine F.ok sc_is_integer (fun vs H Q E h => ?_) (fun cdv A outer s0 H vs Q E hr h => ?_)
  · obtain ⟨i, rfl, _⟩ := h
    rfl
  obtain ⟨i, rfl, q⟩ := h
  refine ⟨_, (pss_one (ps_ret (pe_and (pe_callB call_isi (by rfl) z_isinstance (by decide +kernel) (pa_cons (pv 0) (pa_cons (pe_bltn (v := .ty "int") (by rfl) z_int (by decide +kernel) rfl) pa_nil))) (pe_one (pe_not (pe_callB call_isi (by rfl) z_isinstance (by decide +kernel) (pa_cons (pv 0) (pa_cons (pe_bltn (v := .ty "bool") (by rfl) z_bool (by decide +kernel) rfl) pa_nil)))))))), ?_⟩
  walk_at "rd"
  refine ⟨_, .ty "int", _, _, true, rfl, .ty "int", .base (.int i), kit_ty (by decide +kernel), _, rfl, ?_⟩
  refine ifT rfl ?_
  walk_at "rd"
  refine ⟨_, .ty "bool", _, _, false, rfl, .ty "bool", .base (.int i), kit_ty (by decide +kernel), _, rfl, ?_⟩
  exact q H (Same.refl _)
theorem ok_is_integer_within (S : Stands K mg "is_integer_within" s_is_integer_within ["value", "least", "greatest"]) (Z : Blt mg) (H_is_integer : DefOk P w K mg base CX0 1 "is_integer" ["value"] spIsInt) : DefOk P w K mg base CX0 2 "is_integer_within" ["value", "least", "greatest"] spWithin := by
  obtain ⟨f, fd, F, hm, hb⟩ := S
  obtain ⟨f_is_integer, fd_is_integer, G_is_integer, m_is_integer, k_is_integer, b_is_integer⟩ := H_is_integer
  refine ⟨f, fd, ?_, hm, F.kp, hb⟩
  have nd := sc_is_integer_within.nd
  refine F.ok sc_is_integer_within (fun vs H Q E h => ?_) (fun cdv A outer s0 H vs Q E hr h => ?_)
  · obtain ⟨i, lo, hi, rfl, _⟩ := h
    rfl
  obtain ⟨i, lo, hi, rfl, h1, h2, q⟩ := h
  refine ⟨_, (pss_one (ps_ret (pe_and (pe_call G_is_integer (hr.mono (by decide)) rfl m_is_integer k_is_integer b_is_integer .nil pass0 (pa_cons (pv 0) pa_nil)) (pe_one (pe_chain op_le op_le (pv 1) (pv 0) (pv 2)))))), ?_⟩
  walk_at "rd"
  intro H1 S1
  refine ⟨_, rfl, ifT rfl ?_⟩
  walk_at "rd"
  rw [decide_eq_true h1]
  refine ifT rfl ?_
  walk_at "rd"
  refine (show Q (.bl (decide (i ≤ hi))) H1 from ?_)
  rw [decide_eq_true h2]
  exact q H1 S1
theorem ok_is_name (S : Stands K mg "is_name" s_is_name ["value"]) (Z : Blt mg) (C : Cst mg) : DefOk P w K mg base CX0 1 "is_name" ["value"] spIsName := by
  have z_isinstance := Z.isinstance
  have z_len := Z.len
  have z_str := Z.str
  obtain ⟨t8, c_MOST_LETTERS⟩ := C.letters
  have c_MOST_LETTERS_r := @rel_int 8 t8
  obtain ⟨f, fd, F, hm, hb⟩ := S
  refine ⟨f, fd, ?_, hm, F.kp, hb⟩
  have nd := sc_is_name.nd
  refine F.ok sc_is_name (fun vs H Q E h => ?_) (fun cdv A outer s0 H vs Q E hr h => ?_)
  · obtain ⟨n, rfl, _⟩ := h
    rfl
  obtain ⟨n, rfl, hn, q⟩ := h
  refine ⟨_, (pss_cons (ps_if (PW.pt (pw_or (pt_not (pt_val (pe_callB call_isi (by rfl) z_isinstance (by decide +kernel) (pa_cons (pv 0) (pa_cons (pe_bltn (v := .ty "str") (by rfl) z_str (by decide +kernel) rfl) pa_nil))))) (pw_or1 (pt_not (pt_chain op_le op_le pe_int (pe_callB call_len_str (by rfl) z_len (by decide +kernel) (pa_cons (pv 0) pa_nil)) (pe_glob rfl c_MOST_LETTERS c_MOST_LETTERS_r)))))) (pss_one (ps_ret pe_bl)) pss_nil)
      (pss_one (ps_ret (pe_and (pe_bm0 PySem.F.plainAttrs_str PySem.F.slot_str_isascii PySem.F.type_str_isascii mt_isascii (pv 0)) (pe_and (pe_bm0 PySem.F.plainAttrs_str PySem.F.slot_str_isalpha PySem.F.type_str_isalpha mt_isalpha (pv 0)) (pe_one (pe_bm0 PySem.F.plainAttrs_str PySem.F.slot_str_islower PySem.F.type_str_islower mt_islower (pv 0)))))))), ?_⟩
  walk_at "rd"
  refine ⟨_, .ty "str", _, _, true, rfl, .ty "str", .base (.str n), kit_ty (by decide +kernel), _, rfl, ?_⟩
  refine ifF rfl ?_
  walk_at "rd"
  have hlen := hn.1
  have hlen8 := hn.2.1
  refine ⟨sz (by omega), ?_⟩
  walk_at "rd"
  rw [decide_eq_true (show (1 : Int) ≤ ((n.length : Nat) : Int) by omega)]
  refine ifT rfl ?_
  walk_at "rd"
  refine ifF (by rw [decide_eq_true (show ((n.length : Nat) : Int) ≤ 8 by omega)]; rfl) ?_
  walk_at "rd"
  rw [name_ascii hn]
  refine ifT rfl ?_
  walk_at "rd"
  rw [name_alpha hn]
  refine ifT rfl ?_
  walk_at "rd"
  rw [name_lower hn]
  exact q H (Same.refl _)
theorem ok_are_names (S : Stands K mg "are_names" s_are_names ["values"]) (Z : Blt mg) (C : Cst mg) : DefOk P w K mg base CX0 1 "are_names" ["values"] (spAreNames K) := by
  have z_isinstance := Z.isinstance
  have z_len := Z.len
  have z_str := Z.str
  obtain ⟨t8, c_MOST_LETTERS⟩ := C.letters
  have c_MOST_LETTERS_r := @rel_int 8 t8
  obtain ⟨f, fd, F, hm, hb⟩ := S
  refine ⟨f, fd, ?_, hm, F.kp, hb⟩
  have nd := sc_are_names.nd
  refine F.ok sc_are_names (fun vs H Q E h => ?_) (fun cdv A outer s0 H vs Q E hr h => ?_)
  · obtain ⟨l, ls, rfl, _⟩ := h
    rfl
  obtain ⟨l, ls, rfl, hl, h12, hn, q⟩ := h
  refine ⟨_, (pss_cons (ps_for PassesOwn.never rfl (pi_list (pv 0)) (pg_name (i := 1) nd rfl (Or.inl rfl)) (pss_one (ps_if (PW.pt (pw_or (pt_not (pt_val (pe_callB call_isi (by rfl) z_isinstance (by decide +kernel) (pa_cons (pv 1) (pa_cons (pe_bltn (v := .ty "str") (by rfl) z_str (by decide +kernel) rfl) pa_nil))))) (pw_or1 (pt_not (pt_chain op_le op_le pe_int (pe_callB call_len_str (by rfl) z_len (by decide +kernel) (pa_cons (pv 1) pa_nil)) (pe_glob rfl c_MOST_LETTERS c_MOST_LETTERS_r)))))) (pss_one (ps_ret pe_bl)) pss_nil)))
      (pss_cons (ps_set (i := 2) nd rfl (Or.inl rfl) (pe_bm PySem.F.plainAttrs_str PySem.F.slot_str_join PySem.F.type_str_join mt_join pe_str (pa_cons (pv 0) pa_nil)))
      (pss_one (ps_ret (pe_or (pe_cmpR op_eq (pv 2) pe_str (nomark _)) (pe_one (pe_and (pe_bm0 PySem.F.plainAttrs_str PySem.F.slot_str_isascii PySem.F.type_str_isascii mt_isascii (pv 2)) (pe_and (pe_bm0 PySem.F.plainAttrs_str PySem.F.slot_str_isalpha PySem.F.type_str_isalpha mt_isalpha (pv 2)) (pe_one (pe_bm0 PySem.F.plainAttrs_str PySem.F.slot_str_islower PySem.F.type_str_islower mt_islower (pv 2))))))))))), ?_⟩
  walk_at "rd"
  refine ⟨⟨_, hl⟩, ?_⟩
  refine for_list (K := K) (a := l) (xs := ls.map V.str) (fun i σ X => ∃ s1 : Option V, σ = [some (.ref l), s1, none] ∧ X = H) ⟨none, rfl, rfl⟩ (fun i σ X hi ⟨_, _, g⟩ => by rw [g]; exact hl) ?_ ?_
  · rintro i x σ X hx ⟨s1, rfl, rfl⟩
    obtain ⟨n, hb1, hb2, rfl⟩ := get_map hx
    have hnn := hn n (List.mem_of_getElem? hb2)
    have hlen := hnn.1
    have hlen8 := hnn.2.1
    refine ⟨_, rfl, ?_⟩
    walk_at "rd"
    refine ⟨_, .ty "str", _, _, true, rfl, .ty "str", .base (.str n), kit_ty (by decide +kernel), _, rfl, ?_⟩
    refine ifF rfl ?_
    walk_at "rd"
    refine ⟨sz (by omega), ?_⟩
    walk_at "rd"
    rw [decide_eq_true (show (1 : Int) ≤ ((n.length : Nat) : Int) by omega)]
    refine ifT rfl ?_
    walk_at "rd"
    refine ifF (by rw [decide_eq_true (show ((n.length : Nat) : Int) ≤ 8 by omega)]; rfl) ?_
    exact ⟨_, rfl, rfl⟩
  · rintro σ X ⟨s1, rfl, rfl⟩
    walk_at "rd"
    have hsum : (ls.map (·.length)).sum ≤ 12 * 8 := by
      have z : ∀ ks : List Str, (∀ n ∈ ks, isName n) → (ks.map (·.length)).sum ≤ ks.length * 8 := fun ks => by
        induction ks with
        | nil => intro _; simp
        | cons x r ih =>
          intro h
          have h1 := (h x List.mem_cons_self).2.1
          have h2 := ih fun y m => h y (List.mem_cons_of_mem _ m)
          simp only [List.map_cons, List.sum_cons, List.length_cons, Nat.succ_mul]
          omega
      have z1 := z ls hn
      have z2 := Nat.mul_le_mul_right 8 h12
      omega
    refine ⟨_, l, ls, rfl, rfl, .inl hl, by show (ls.map (·.length)).sum + ls.length * 0 ≤ 16777216; omega, ?_⟩
    have hlow := low_join ls fun n m => (hn n m).2.2
    have hpos : ls ≠ [] → 1 ≤ (Txt.join "" ls).length := fun h => join_pos h fun n m => (hn n m).1
    have hnil : ls = [] → Txt.join "" ls = "" := fun h => by rw [h, join_eq]; rfl
    change gName 2 (V.str (Txt.join "" ls)) _ _ _
    generalize Txt.join "" ls = letters at *
    walk_at "rd"
    by_cases e : ls = []
    · rw [hnil e]
      refine ifT (decide_eq_true rfl) ?_
      exact q _ (Same.refl _)
    · have h1 := hpos e
      refine ifF (decide_eq_false fun z => by rw [V.str.inj z] at h1; exact absurd h1 (by decide)) ?_
      walk_at "rd"
      rw [low_ascii hlow]
      refine ifT rfl ?_
      walk_at "rd"
      rw [low_alpha hlow h1]
      refine ifT rfl ?_
      walk_at "rd"
      rw [low_lower hlow h1]
      exact q _ (Same.refl _)
theorem ok_are_ascending (S : Stands K mg "are_ascending" s_are_ascending ["names"]) (Z : Blt mg) : DefOk P w K mg base CX0 1 "are_ascending" ["names"] (spAsc K) := by
  have z_sorted := Z.sorted
  have z_set := Z.set
  have z_len := Z.len
  obtain ⟨f, fd, F, hm, hb⟩ := S
  refine ⟨f, fd, ?_, hm, F.kp, hb⟩
  have nd := sc_are_ascending.nd
  refine F.ok sc_are_ascending (fun vs H Q E h => ?_) (fun cdv A outer s0 H vs Q E hr h => ?_)
  · obtain ⟨l, ls, rfl, _⟩ := h
    rfl
  obtain ⟨l, ls, rfl, hl, h12, hn, hp, q⟩ := h
  refine ⟨_, (pss_one (ps_ret (pe_and (pe_cmpR (op_eqD hr.units) (pe_callB cr_sortedS (by rfl) z_sorted (by decide +kernel) (pa_cons (pv 0) pa_nil)) (pv 0) (nomark _)) (pe_one (pe_cmpR op_eq (pe_callB cr_lenTx (by rfl) z_len (by decide +kernel) (pa_cons (pe_callTy (cr_setTx rfl) (by rfl) z_set (by decide +kernel) (pa_cons (pv 0) pa_nil)) pa_nil)) (pe_callB call_len_seq (by rfl) z_len (by decide +kernel) (pa_cons (pv 0) pa_nil)) (nomark _)))))), ?_⟩
  walk_at "rd"
  refine ⟨l, ls, rfl, hl, by omega, fun ys p hy hs hp1 => ?_⟩
  rw [asc_sorted hy hs hp]
  walk_at "rd"
  refine ⟨.list (ls.map .str), .list (ls.map .str), .lst (SqL.of upd_same) (dpStrs ls), .lst ((same_new hp1 _).seq hl) (dpStrs ls), strs_shaped ls hn, strs_shaped ls hn, ?_⟩
  rw [SeqAt.eqv_refl _ (SeqAt.canLay_of_shaped (strs_shaped ls hn))]
  refine ⟨_, rfl, ifT rfl ?_⟩
  walk_at "rd"
  refine ⟨l, ls, rfl, (same_new hp1 _).seq hl, by omega, fun p2 hp2 => ?_⟩
  walk_at "rd"
  refine ⟨p2, ls, _, rfl, upd_same, asc_nodup hp, by omega, ?_⟩
  walk_at "rd"
  have S2 := (same_new hp1 (.lst (ls.map V.str))).trans (same_new hp2 (SetX P w p2 ls ls.length))
  refine ⟨l, _, rfl, .inl (S2.seq hl), ?_⟩
  walk_at "rd"
  rw [List.length_map, decide_eq_true rfl]
  exact q _ S2
theorem ok_are_fields (S : Stands K mg "are_fields" s_are_fields ["value", "most"]) (Z : Blt mg) (H_are_names : DefOk P w K mg base CX0 1 "are_names" ["values"] (spAreNames K)) (H_are_ascending : DefOk P w K mg base CX0 1 "are_ascending" ["names"] (spAsc K)) : DefOk P w K mg base CX0 3 "are_fields" ["value", "most"] (spAreFields K) := by
  have z_isinstance := Z.isinstance
  have z_list := Z.list
  have z_tuple := Z.tuple
  have z_len := Z.len
  obtain ⟨f, fd, F, hm, hb⟩ := S
  obtain ⟨f_are_names, fd_are_names, G_are_names, m_are_names, k_are_names, b_are_names⟩ := H_are_names
  obtain ⟨f_are_ascending, fd_are_ascending, G_are_ascending, m_are_ascending, k_are_ascending, b_are_ascending⟩ := H_are_ascending
  refine ⟨f, fd, ?_, hm, F.kp, hb⟩
  have nd := sc_are_fields.nd
  refine F.ok sc_are_fields (fun vs H Q E h => ?_) (fun cdv A outer s0 H vs Q E hr h => ?_)
  · obtain ⟨l, bs, ls, us, rfl, _⟩ := h
    rfl
  obtain ⟨l, bs, ls, us, rfl, hl, h12, hls, hus, hf, hn, hp, q⟩ := h
  refine ⟨_, (pss_cons (ps_if (PW.pt (pw_or (pt_not (pt_val (pe_callB call_isi (by rfl) z_isinstance (by decide +kernel) (pa_cons (pv 0) (pa_cons (pe_bltn (v := .ty "list") (by rfl) z_list (by decide +kernel) rfl) pa_nil))))) (pw_or1 (pt_cmpR op_gt (pe_callB call_len_seq (by rfl) z_len (by decide +kernel) (pa_cons (pv 0) pa_nil)) (pv 1) (nomark _))))) (pss_one (ps_ret pe_bl)) pss_nil)
      (pss_cons (ps_set (i := 2) nd rfl (Or.inl rfl) (pe_lst pa_nil))
      (pss_cons (ps_for PassesOwn.never rfl (pi_list (pv 0)) (pg_name (i := 3) nd rfl (Or.inl rfl)) (pss_cons (ps_if (PW.pt (pw_or (pt_not (pt_val (pe_callB call_isi (by rfl) z_isinstance (by decide +kernel) (pa_cons (pv 3) (pa_cons (pe_bltn (v := .ty "tuple") (by rfl) z_tuple (by decide +kernel) rfl) pa_nil))))) (pw_or1 (pt_cmpR op_ne (pe_callB call_len_seq (by rfl) z_len (by decide +kernel) (pa_cons (pv 3) pa_nil)) pe_int (nomark _))))) (pss_one (ps_ret pe_bl)) pss_nil)
      (pss_one (ps_expr (pe_bm PySem.F.plainAttrs_list PySem.F.slot_list_append PySem.F.type_list_append mt_append (pv 2) (pa_cons (pe_ix ix_tup (pv 3) pe_int (fun _ _ => rfl)) pa_nil))))))
      (pss_one (ps_ret (pe_and (pe_call G_are_names (hr.mono (by decide)) rfl m_are_names k_are_names b_are_names .nil pass0 (pa_cons (pv 2) pa_nil)) (pe_one (pe_call G_are_ascending (hr.mono (by decide)) rfl m_are_ascending k_are_ascending b_are_ascending .nil pass0 (pa_cons (pv 2) pa_nil))))))))), ?_⟩
  walk_at "rd"
  refine ⟨_, .ty "list", _, _, true, rfl, .ty "list", tyL hl, kit_ty (by decide +kernel), _, rfl, ?_⟩
  refine ifF rfl ?_
  walk_at "rd"
  refine ⟨l, _, rfl, .inl hl, ?_⟩
  walk_at "rd"
  refine ifF (decide_eq_false (by rw [List.length_map]; omega)) ?_
  walk_at "rd"
  intro D hD
  have S0 := same_new hD (.lst [])
  have g0 := @upd_same H D (.lst [])
  generalize upd H D (.lst []) = H0 at *
  walk_at "rd"
  refine ⟨⟨_, S0.seq hl⟩, ?_⟩
  refine for_list (K := K) (a := l) (xs := bs.map V.ref) (fun i σ X => ∃ s3 : Option V, σ = [some (.ref l), some (.int 12), some (.ref D), s3] ∧ Same H X ∧ X D = some (.lst ((ls.take i).map V.str))) ⟨none, rfl, S0, g0⟩ (fun i σ X hi ⟨_, _, g, _⟩ => g.seq hl) ?_ ?_
  · rintro i x σ X hx ⟨s3, rfl, g, gD⟩
    obtain ⟨b, hb1, hb2, rfl⟩ := get_map hx
    have hi := (List.getElem?_eq_some_iff.mp hb2).1
    have e1 : ls[i]? = some (ls[i]'(by omega)) := List.getElem?_eq_getElem (by omega)
    have e2 : us[i]? = some (us[i]'(by omega)) := List.getElem?_eq_getElem (by omega)
    have ht := g.tupS (hf i b _ _ hb2 e1 e2)
    refine ⟨_, rfl, ?_⟩
    walk_at "rd"
    refine ⟨_, .ty "tuple", _, _, true, rfl, .ty "tuple", tyT ht, kit_ty (by decide +kernel), _, rfl, ?_⟩
    refine ifF rfl ?_
    walk_at "rd"
    refine ⟨b, _, rfl, .inr ht, ?_⟩
    walk_at "rd"
    walk_at "rd"
    refine ⟨.inl ⟨rfl, _, SqL.of gD⟩, ?_⟩
    walk_at "rd"
    refine ⟨D, _, _, rfl, rfl, gD, small1000 (by rw [List.length_map, List.length_take]; omega), ?_⟩
    refine ⟨_, rfl, fun c o e => ?_, ?_⟩
    · have n1 : c ≠ D := fun z => by rw [z, hD] at e; cases e
      rw [upd_ne n1]
      exact g c o e
    · rw [upd_same, List.take_add_one, e1, List.map_append]
      rfl
  · rintro σ X ⟨s3, rfl, g, gD⟩
    rw [List.length_map, List.take_of_length_le (by omega)] at gD
    walk_at "rd"
    refine ⟨D, ls, rfl, SqL.of gD, by omega, hn, fun H2 S2 => ?_⟩
    refine ⟨_, rfl, ifT rfl ?_⟩
    walk_at "rd"
    exact ⟨D, ls, rfl, SqL.of (S2 _ _ gD), by omega, hn, hp, fun H3 S3 => q H3 ((g.trans S2).trans S3)⟩
theorem ok_are_items (S : Stands K mg "are_items" s_are_items ["value"]) (Z : Blt mg) (C : Cst mg) : DefOk P w K mg base CX0 1 "are_items" ["value"] (spAreItems K) := by
  have z_isinstance := Z.isinstance
  have z_list := Z.list
  have z_len := Z.len
  obtain ⟨t2, c_LEAST_ITEMS⟩ := C.least
  have c_LEAST_ITEMS_r := @rel_int 2 t2
  obtain ⟨t6, c_MOST_ITEMS⟩ := C.items
  have c_MOST_ITEMS_r := @rel_int 6 t6
  obtain ⟨f, fd, F, hm, hb⟩ := S
  refine ⟨f, fd, ?_, hm, F.kp, hb⟩
  have nd := sc_are_items.nd
  refine F.ok sc_are_items (fun vs H Q E h => ?_) (fun cdv A outer s0 H vs Q E hr h => ?_)
  · obtain ⟨l, xs, rfl, _⟩ := h
    rfl
  obtain ⟨l, xs, rfl, hl, h2, h6, q⟩ := h
  refine ⟨_, (pss_one (ps_ret (pe_and (pe_callB call_isi (by rfl) z_isinstance (by decide +kernel) (pa_cons (pv 0) (pa_cons (pe_bltn (v := .ty "list") (by rfl) z_list (by decide +kernel) rfl) pa_nil))) (pe_one (pe_chain op_le op_le (pe_glob rfl c_LEAST_ITEMS c_LEAST_ITEMS_r) (pe_callB call_len_seq (by rfl) z_len (by decide +kernel) (pa_cons (pv 0) pa_nil)) (pe_glob rfl c_MOST_ITEMS c_MOST_ITEMS_r)))))), ?_⟩
  walk_at "rd"
  refine ⟨_, .ty "list", _, _, true, rfl, .ty "list", tyL hl, kit_ty (by decide +kernel), _, rfl, ?_⟩
  refine ifT rfl ?_
  walk_at "rd"
  refine ⟨l, _, rfl, .inl hl, ?_⟩
  walk_at "rd"
  rw [decide_eq_true (show (2 : Int) ≤ ((xs.length : Nat) : Int) by omega)]
  refine ifT rfl ?_
  walk_at "rd"
  refine (show Q (.bl (decide (((xs.length : Nat) : Int) ≤ 6))) H from ?_)
  rw [decide_eq_true (show ((xs.length : Nat) : Int) ≤ 6 by omega)]
  exact q H (Same.refl _)
theorem ok_begins (S : Stands K mg "begins_as_function" s_begins_as_function ["value"]) (Z : Blt mg) : DefOk P w K mg base CX0 1 "begins_as_function" ["value"] (spBegins K) := by
  have z_isinstance := Z.isinstance
  have z_tuple := Z.tuple
  have z_len := Z.len
  obtain ⟨f, fd, F, hm, hb⟩ := S
  refine ⟨f, fd, ?_, hm, F.kp, hb⟩
  have nd := sc_begins_as_function.nd
  refine F.ok sc_begins_as_function (fun vs H Q E h => ?_) (fun cdv A outer s0 H vs Q E hr h => ?_)
  · obtain ⟨a, xs, rfl, _⟩ := h
    rfl
  obtain ⟨a, xs, rfl, ha, q⟩ := h
  refine ⟨_, (pss_one (ps_ret (pe_and (pe_callB call_isi (by rfl) z_isinstance (by decide +kernel) (pa_cons (pv 0) (pa_cons (pe_bltn (v := .ty "tuple") (by rfl) z_tuple (by decide +kernel) rfl) pa_nil))) (pe_and (pe_cmpR op_gt (pe_callB call_len_seq (by rfl) z_len (by decide +kernel) (pa_cons (pv 0) pa_nil)) pe_int (nomark _)) (pe_one (pe_cmpR op_eq (pe_ix ix_tup (pv 0) pe_int (fun _ _ => rfl)) pe_str (nomark _))))))), ?_⟩
  walk_at "rd"
  refine ⟨_, .ty "tuple", _, _, true, rfl, .ty "tuple", tyT ha, kit_ty (by decide +kernel), _, rfl, ?_⟩
  refine ifT rfl ?_
  walk_at "rd"
  refine ⟨a, _, rfl, .inr ha, ?_⟩
  walk_at "rd"
  rw [decide_eq_true (show (0 : Int) < (((V.str "fun" :: xs).length : Nat) : Int) by rw [List.length_cons]; omega)]
  refine ifT rfl ?_
  walk_at "rd"
  refine ⟨a, _, _, _, rfl, rfl, ha, at0, ?_⟩
  walk_at "rd"
  exact q H (Same.refl _)
end
end Vt


set_option Elab.async false
set_option linter.all false
set_option maxRecDepth 100000
set_option maxHeartbeats 4000000

namespace Vt
open PySem PySem.Spec PyProof.Rows L2
/-! ### the terms within a node, kind by kind -/
/-- a list or a tuple: of the term itself, or new -/
def Nw (K : PySem.W.Frag) (G0 H H' : Hp) (r : Addr) (us : List V) : Prop := Sq K G0 r us ∨ (H r = none ∧ (H' r = some (.lst us) ∨ H' r = some (.tup us)))
theorem Nw.sq {K : PySem.W.Frag} {G0 H H' : Hp} {r : Addr} {us : List V} (h : Nw K G0 H H' r us) (s : Same G0 H') : Sq K H' r us := by
  rcases h with h | ⟨_, h | h⟩
  · exact h.same s
  · exact .inl (SqL.of h)
  · exact .inr (SqT.of h)
def spIn (K : PySem.W.Frag) (wd : Str) : Sp := fun vs H Q _ => ∃ (v : V) (t : T) (G0 : Hp), vs = [v] ∧ t.hd.word = wd ∧ Same G0 H ∧ Tm K G0 v t ∧ Wt t ∧
  ∀ (r : Addr) (H' : Hp) (us : List V), Same H H' → Nw K G0 H H' r us → Al (fun u k => Tm K G0 u k) us t.kids → Q (.ref r) H'
theorem al0 {α β : Type} {R : α → β → Prop} : Al R [] [] := Al.nil
theorem al1 {α β : Type} {R : α → β → Prop} {a : α} {b : β} (h : R a b) : Al R [a] [b] := Al.snoc (xs := []) (ys := []) Al.nil h
theorem al2 {α β : Type} {R : α → β → Prop} {a a2 : α} {b b2 : β} (h : R a b) (h2 : R a2 b2) : Al R [a, a2] [b, b2] := Al.snoc (xs := [a]) (ys := [b]) (al1 h) h2
theorem al3 {α β : Type} {R : α → β → Prop} {a a2 a3 : α} {b b2 b3 : β} (h : R a b) (h2 : R a2 b2) (h3 : R a3 b3) : Al R [a, a2, a3] [b, b2, b3] := Al.snoc (xs := [a, a2]) (ys := [b, b2]) (al2 h h2) h3
/-- of a rec the first term within is a function's tuple -/
theorem fn_of {K : PySem.W.Frag} {H : Hp} {n : Str} {v : V} {t : T} {r : List T} (o : okRec (.rc n) (t :: r)) (h : Tm K H v t) : ∃ b ys, v = .ref b ∧ SqT K H b (.str "fun" :: ys) := by
  cases h with
  | fn h1 _ => exact ⟨_, _, rfl, h1⟩
  | _ => exact False.elim o
abbrev s_inner_of_var : Stmt := topS 22
abbrev N_inner_of_var : List Str := ["node"]
theorem sc_inner_of_var : FnScope N_inner_of_var ["node"] (defScope s_inner_of_var) := ⟨rfl, rfl, rfl, by decide +kernel, rfl, by decide +kernel, by decide +kernel⟩
abbrev s_inner_of_int : Stmt := topS 23
abbrev N_inner_of_int : List Str := ["node"]
theorem sc_inner_of_int : FnScope N_inner_of_int ["node"] (defScope s_inner_of_int) := ⟨rfl, rfl, rfl, by decide +kernel, rfl, by decide +kernel, by decide +kernel⟩
abbrev s_inner_of_bool : Stmt := topS 24
abbrev N_inner_of_bool : List Str := ["node"]
theorem sc_inner_of_bool : FnScope N_inner_of_bool ["node"] (defScope s_inner_of_bool) := ⟨rfl, rfl, rfl, by decide +kernel, rfl, by decide +kernel, by decide +kernel⟩
abbrev s_inner_of_fun : Stmt := topS 25
abbrev N_inner_of_fun : List Str := ["node"]
theorem sc_inner_of_fun : FnScope N_inner_of_fun ["node"] (defScope s_inner_of_fun) := ⟨rfl, rfl, rfl, by decide +kernel, rfl, by decide +kernel, by decide +kernel⟩
abbrev s_inner_of_app : Stmt := topS 26
abbrev N_inner_of_app : List Str := ["node"]
theorem sc_inner_of_app : FnScope N_inner_of_app ["node"] (defScope s_inner_of_app) := ⟨rfl, rfl, rfl, by decide +kernel, rfl, by decide +kernel, by decide +kernel⟩
abbrev s_inner_of_let : Stmt := topS 27
abbrev N_inner_of_let : List Str := ["node"]
theorem sc_inner_of_let : FnScope N_inner_of_let ["node"] (defScope s_inner_of_let) := ⟨rfl, rfl, rfl, by decide +kernel, rfl, by decide +kernel, by decide +kernel⟩
abbrev s_inner_of_rec : Stmt := topS 28
abbrev N_inner_of_rec : List Str := ["node"]
theorem sc_inner_of_rec : FnScope N_inner_of_rec ["node"] (defScope s_inner_of_rec) := ⟨rfl, rfl, rfl, by decide +kernel, rfl, by decide +kernel, by decide +kernel⟩
abbrev s_inner_of_if : Stmt := topS 29
abbrev N_inner_of_if : List Str := ["node"]
theorem sc_inner_of_if : FnScope N_inner_of_if ["node"] (defScope s_inner_of_if) := ⟨rfl, rfl, rfl, by decide +kernel, rfl, by decide +kernel, by decide +kernel⟩
abbrev s_inner_of_tuple : Stmt := topS 30
abbrev N_inner_of_tuple : List Str := ["node"]
theorem sc_inner_of_tuple : FnScope N_inner_of_tuple ["node"] (defScope s_inner_of_tuple) := ⟨rfl, rfl, rfl, by decide +kernel, rfl, by decide +kernel, by decide +kernel⟩
abbrev s_inner_of_part : Stmt := topS 31
abbrev N_inner_of_part : List Str := ["node"]
theorem sc_inner_of_part : FnScope N_inner_of_part ["node"] (defScope s_inner_of_part) := ⟨rfl, rfl, rfl, by decide +kernel, rfl, by decide +kernel, by decide +kernel⟩
abbrev s_inner_of_record : Stmt := topS 32
abbrev N_inner_of_record : List Str := ["node", "_", "term"]
theorem sc_inner_of_record : FnScope N_inner_of_record ["node"] (defScope s_inner_of_record) := ⟨rfl, rfl, rfl, by decide +kernel, rfl, by decide +kernel, by decide +kernel⟩
abbrev s_inner_of_field : Stmt := topS 33
abbrev N_inner_of_field : List Str := ["node"]
theorem sc_inner_of_field : FnScope N_inner_of_field ["node"] (defScope s_inner_of_field) := ⟨rfl, rfl, rfl, by decide +kernel, rfl, by decide +kernel, by decide +kernel⟩
abbrev s_inner_of_with : Stmt := topS 34
abbrev N_inner_of_with : List Str := ["node"]
theorem sc_inner_of_with : FnScope N_inner_of_with ["node"] (defScope s_inner_of_with) := ⟨rfl, rfl, rfl, by decide +kernel, rfl, by decide +kernel, by decide +kernel⟩
section
variable {P : Program} {w : World} {K : PySem.W.Frag} {mg : Str → Option Value} {base : Heap}
theorem ok_in_var (S : Stands K mg "inner_of_var" s_inner_of_var ["node"]) (Z : Blt mg) (C : Cst mg) (H_is_name : DefOk P w K mg base CX0 1 "is_name" ["value"] spIsName) : DefOk P w K mg base CX0 4 "inner_of_var" ["node"] (spIn K "var") := by
  have z_len := Z.len
  obtain ⟨f, fd, F, hm, hb⟩ := S
  obtain ⟨f_is_name, fd_is_name, G_is_name, m_is_name, k_is_name, b_is_name⟩ := H_is_name
  refine ⟨f, fd, ?_, hm, F.kp, hb⟩
  have nd := sc_inner_of_var.nd
  refine F.ok sc_inner_of_var (fun vs H Q E h => ?_) (fun cdv A outer s0 H vs Q E hr h => ?_)
  · obtain ⟨v, t, G0, rfl, _⟩ := h
    rfl
  obtain ⟨v, t, G0, rfl, hw, hG, hT, hW, q⟩ := h
  refine ⟨_, (pss_one (ps_ret (pe_ifExp (PW.pt (pw_and (pt_cmpR op_eq (pe_callB call_len_seq (by rfl) z_len (by decide +kernel) (pa_cons (pv 0) pa_nil)) pe_int (nomark _)) (pw_and1 (pt_val (pe_call G_is_name (hr.mono (by decide)) rfl m_is_name k_is_name b_is_name .nil pass0 (pa_cons (pe_ix ix_tup (pv 0) pe_int (fun _ _ => rfl)) pa_nil)))))) (pe_tup pa_nil) pe_non))), ?_⟩
  cases hT with
  | @var a n h1 =>
    walk_at "rd"
    refine ⟨a, _, rfl, .inr (hG.tupS h1), ?_⟩
    walk_at "rd"
    refine ⟨a, _, _, _, rfl, rfl, hG.tupS h1, rfl, ?_⟩
    walk_at "rd"
    refine ⟨hW.hd.2, fun H1 S1 => ⟨_, rfl, ifT rfl ?_⟩⟩
    have G1 := hG.trans S1
    walk_at "rd"
    intro p hp
    exact q p _ [] (S1.trans (same_new hp _)) (.inr ⟨S1.fr hp, .inr upd_same⟩) al0
  | _ => exact absurd hw (of_decide_eq_false (by kernel_rfl))
theorem ok_in_int (S : Stands K mg "inner_of_int" s_inner_of_int ["node"]) (Z : Blt mg) (C : Cst mg) (H_is_integer_within : DefOk P w K mg base CX0 2 "is_integer_within" ["value", "least", "greatest"] spWithin) : DefOk P w K mg base CX0 4 "inner_of_int" ["node"] (spIn K "int") := by
  have z_len := Z.len
  obtain ⟨t_great, c_GREATEST⟩ := C.great
  have c_GREATEST_r := @rel_int (10 ^ 30) t_great
  obtain ⟨f, fd, F, hm, hb⟩ := S
  obtain ⟨f_is_integer_within, fd_is_integer_within, G_is_integer_within, m_is_integer_within, k_is_integer_within, b_is_integer_within⟩ := H_is_integer_within
  refine ⟨f, fd, ?_, hm, F.kp, hb⟩
  have nd := sc_inner_of_int.nd
  refine F.ok sc_inner_of_int (fun vs H Q E h => ?_) (fun cdv A outer s0 H vs Q E hr h => ?_)
  · obtain ⟨v, t, G0, rfl, _⟩ := h
    rfl
  obtain ⟨v, t, G0, rfl, hw, hG, hT, hW, q⟩ := h
  refine ⟨_, (pss_one (ps_ret (pe_ifExp (PW.pt (pw_and (pt_cmpR op_eq (pe_callB call_len_seq (by rfl) z_len (by decide +kernel) (pa_cons (pv 0) pa_nil)) pe_int (nomark _)) (pw_and1 (pt_val (pe_call G_is_integer_within (hr.mono (by decide)) rfl m_is_integer_within k_is_integer_within b_is_integer_within .nil pass0 (pa_cons (pe_ix ix_tup (pv 0) pe_int (fun _ _ => rfl)) (pa_cons (pe_un un_neg (pe_glob rfl c_GREATEST c_GREATEST_r)) (pa_cons (pe_glob rfl c_GREATEST c_GREATEST_r) pa_nil)))))))) (pe_tup pa_nil) pe_non))), ?_⟩
  cases hT with
  | @int a k h1 =>
    walk_at "rd"
    refine ⟨a, _, rfl, .inr (hG.tupS h1), ?_⟩
    walk_at "rd"
    refine ⟨a, _, _, _, rfl, rfl, hG.tupS h1, rfl, ?_⟩
    walk_at "rd"
    refine ⟨k, _, _, rfl, hW.hd.2.1, hW.hd.2.2, fun H1 S1 => ⟨_, rfl, ifT rfl ?_⟩⟩
    walk_at "rd"
    intro p hp
    exact q p _ [] (S1.trans (same_new hp _)) (.inr ⟨S1.fr hp, .inr upd_same⟩) al0
  | _ => exact absurd hw (of_decide_eq_false (by kernel_rfl))
theorem ok_in_bool (S : Stands K mg "inner_of_bool" s_inner_of_bool ["node"]) (Z : Blt mg) (C : Cst mg) : DefOk P w K mg base CX0 4 "inner_of_bool" ["node"] (spIn K "bool") := by
  have z_len := Z.len
  have z_isinstance := Z.isinstance
  have z_bool := Z.bool
  obtain ⟨f, fd, F, hm, hb⟩ := S
  refine ⟨f, fd, ?_, hm, F.kp, hb⟩
  have nd := sc_inner_of_bool.nd
  refine F.ok sc_inner_of_bool (fun vs H Q E h => ?_) (fun cdv A outer s0 H vs Q E hr h => ?_)
  · obtain ⟨v, t, G0, rfl, _⟩ := h
    rfl
  obtain ⟨v, t, G0, rfl, hw, hG, hT, hW, q⟩ := h
  refine ⟨_, (pss_one (ps_ret (pe_ifExp (PW.pt (pw_and (pt_cmpR op_eq (pe_callB call_len_seq (by rfl) z_len (by decide +kernel) (pa_cons (pv 0) pa_nil)) pe_int (nomark _)) (pw_and1 (pt_val (pe_callB call_isi (by rfl) z_isinstance (by decide +kernel) (pa_cons (pe_ix ix_tup (pv 0) pe_int (fun _ _ => rfl)) (pa_cons (pe_bltn (v := .ty "bool") (by rfl) z_bool (by decide +kernel) rfl) pa_nil))))))) (pe_tup pa_nil) pe_non))), ?_⟩
  cases hT with
  | @bool a b h1 =>
    walk_at "rd"
    refine ⟨a, _, rfl, .inr (hG.tupS h1), ?_⟩
    walk_at "rd"
    refine ⟨a, _, _, _, rfl, rfl, hG.tupS h1, rfl, ?_⟩
    walk_at "rd"
    refine ⟨_, .ty "bool", _, _, true, rfl, .ty "bool", .base (.bl b), kit_ty (by decide +kernel), _, rfl, ?_⟩
    refine ifT rfl ?_
    walk_at "rd"
    intro p hp
    exact q p _ [] (same_new hp _) (.inr ⟨hp, .inr upd_same⟩) al0
  | _ => exact absurd hw (of_decide_eq_false (by kernel_rfl))
theorem ok_in_fun (S : Stands K mg "inner_of_fun" s_inner_of_fun ["node"]) (Z : Blt mg) (C : Cst mg) (H_is_name : DefOk P w K mg base CX0 1 "is_name" ["value"] spIsName) : DefOk P w K mg base CX0 4 "inner_of_fun" ["node"] (spIn K "fun") := by
  have z_len := Z.len
  obtain ⟨f, fd, F, hm, hb⟩ := S
  obtain ⟨f_is_name, fd_is_name, G_is_name, m_is_name, k_is_name, b_is_name⟩ := H_is_name
  refine ⟨f, fd, ?_, hm, F.kp, hb⟩
  have nd := sc_inner_of_fun.nd
  refine F.ok sc_inner_of_fun (fun vs H Q E h => ?_) (fun cdv A outer s0 H vs Q E hr h => ?_)
  · obtain ⟨v, t, G0, rfl, _⟩ := h
    rfl
  obtain ⟨v, t, G0, rfl, hw, hG, hT, hW, q⟩ := h
  refine ⟨_, (pss_one (ps_ret (pe_ifExp (PW.pt (pw_and (pt_cmpR op_eq (pe_callB call_len_seq (by rfl) z_len (by decide +kernel) (pa_cons (pv 0) pa_nil)) pe_int (nomark _)) (pw_and1 (pt_val (pe_call G_is_name (hr.mono (by decide)) rfl m_is_name k_is_name b_is_name .nil pass0 (pa_cons (pe_ix ix_tup (pv 0) pe_int (fun _ _ => rfl)) pa_nil)))))) (pe_slice sl_tup (pv 0) (po_some pe_int) po_none) pe_non))), ?_⟩
  cases hT with
  | @fn a n v t1 h1 h2 =>
    walk_at "rd"
    refine ⟨a, _, rfl, .inr (hG.tupS h1), ?_⟩
    walk_at "rd"
    refine ⟨a, _, _, _, rfl, rfl, hG.tupS h1, rfl, ?_⟩
    walk_at "rd"
    refine ⟨hW.hd.2, fun H1 S1 => ⟨_, rfl, ifT rfl ?_⟩⟩
    have G1 := hG.trans S1
    walk_at "rd"
    refine ⟨a, _, rfl, G1.tupS h1, (fun z' => absurd (show (2 : Nat) = 0 from z'.1) (by decide)), fun p hp => ?_⟩
    exact q p _ [v] (S1.trans (same_new hp _)) (.inr ⟨S1.fr hp, .inr upd_same⟩) (al1 h2)
  | _ => exact absurd hw (of_decide_eq_false (by kernel_rfl))
theorem ok_in_app (S : Stands K mg "inner_of_app" s_inner_of_app ["node"]) (Z : Blt mg) (C : Cst mg) : DefOk P w K mg base CX0 4 "inner_of_app" ["node"] (spIn K "app") := by
  have z_len := Z.len
  obtain ⟨f, fd, F, hm, hb⟩ := S
  refine ⟨f, fd, ?_, hm, F.kp, hb⟩
  have nd := sc_inner_of_app.nd
  refine F.ok sc_inner_of_app (fun vs H Q E h => ?_) (fun cdv A outer s0 H vs Q E hr h => ?_)
  · obtain ⟨v, t, G0, rfl, _⟩ := h
    rfl
  obtain ⟨v, t, G0, rfl, hw, hG, hT, hW, q⟩ := h
  refine ⟨_, (pss_one (ps_ret (pe_ifExp (pt_cmpR op_eq (pe_callB call_len_seq (by rfl) z_len (by decide +kernel) (pa_cons (pv 0) pa_nil)) pe_int (nomark _)) (pe_slice sl_tup (pv 0) (po_some pe_int) po_none) pe_non))), ?_⟩
  cases hT with
  | @app a v t1 u t2 h1 h2 h3 =>
    walk_at "rd"
    refine ⟨a, _, rfl, .inr (hG.tupS h1), ?_⟩
    walk_at "rd"
    refine ⟨a, _, rfl, hG.tupS h1, (fun z' => absurd (show (1 : Nat) = 0 from z'.1) (by decide)), fun p hp => ?_⟩
    exact q p _ [v, u] ((Same.refl H).trans (same_new hp _)) (.inr ⟨(Same.refl H).fr hp, .inr upd_same⟩) (al2 h2 h3)
  | _ => exact absurd hw (of_decide_eq_false (by kernel_rfl))
theorem ok_in_let (S : Stands K mg "inner_of_let" s_inner_of_let ["node"]) (Z : Blt mg) (C : Cst mg) (H_is_name : DefOk P w K mg base CX0 1 "is_name" ["value"] spIsName) : DefOk P w K mg base CX0 4 "inner_of_let" ["node"] (spIn K "let") := by
  have z_len := Z.len
  obtain ⟨f, fd, F, hm, hb⟩ := S
  obtain ⟨f_is_name, fd_is_name, G_is_name, m_is_name, k_is_name, b_is_name⟩ := H_is_name
  refine ⟨f, fd, ?_, hm, F.kp, hb⟩
  have nd := sc_inner_of_let.nd
  refine F.ok sc_inner_of_let (fun vs H Q E h => ?_) (fun cdv A outer s0 H vs Q E hr h => ?_)
  · obtain ⟨v, t, G0, rfl, _⟩ := h
    rfl
  obtain ⟨v, t, G0, rfl, hw, hG, hT, hW, q⟩ := h
  refine ⟨_, (pss_one (ps_ret (pe_ifExp (PW.pt (pw_and (pt_cmpR op_eq (pe_callB call_len_seq (by rfl) z_len (by decide +kernel) (pa_cons (pv 0) pa_nil)) pe_int (nomark _)) (pw_and1 (pt_val (pe_call G_is_name (hr.mono (by decide)) rfl m_is_name k_is_name b_is_name .nil pass0 (pa_cons (pe_ix ix_tup (pv 0) pe_int (fun _ _ => rfl)) pa_nil)))))) (pe_slice sl_tup (pv 0) (po_some pe_int) po_none) pe_non))), ?_⟩
  cases hT with
  | @lt a n v t1 u t2 h1 h2 h3 =>
    walk_at "rd"
    refine ⟨a, _, rfl, .inr (hG.tupS h1), ?_⟩
    walk_at "rd"
    refine ⟨a, _, _, _, rfl, rfl, hG.tupS h1, rfl, ?_⟩
    walk_at "rd"
    refine ⟨hW.hd.2, fun H1 S1 => ⟨_, rfl, ifT rfl ?_⟩⟩
    have G1 := hG.trans S1
    walk_at "rd"
    refine ⟨a, _, rfl, G1.tupS h1, (fun z' => absurd (show (2 : Nat) = 0 from z'.1) (by decide)), fun p hp => ?_⟩
    exact q p _ [v, u] (S1.trans (same_new hp _)) (.inr ⟨S1.fr hp, .inr upd_same⟩) (al2 h2 h3)
  | _ => exact absurd hw (of_decide_eq_false (by kernel_rfl))
theorem ok_in_rec (S : Stands K mg "inner_of_rec" s_inner_of_rec ["node"]) (Z : Blt mg) (C : Cst mg) (H_is_name : DefOk P w K mg base CX0 1 "is_name" ["value"] spIsName) (H_begins_as_function : DefOk P w K mg base CX0 1 "begins_as_function" ["value"] (spBegins K)) : DefOk P w K mg base CX0 4 "inner_of_rec" ["node"] (spIn K "rec") := by
  have z_len := Z.len
  obtain ⟨f, fd, F, hm, hb⟩ := S
  obtain ⟨f_is_name, fd_is_name, G_is_name, m_is_name, k_is_name, b_is_name⟩ := H_is_name
  obtain ⟨f_begins_as_function, fd_begins_as_function, G_begins_as_function, m_begins_as_function, k_begins_as_function, b_begins_as_function⟩ := H_begins_as_function
  refine ⟨f, fd, ?_, hm, F.kp, hb⟩
  have nd := sc_inner_of_rec.nd
  refine F.ok sc_inner_of_rec (fun vs H Q E h => ?_) (fun cdv A outer s0 H vs Q E hr h => ?_)
  · obtain ⟨v, t, G0, rfl, _⟩ := h
    rfl
  obtain ⟨v, t, G0, rfl, hw, hG, hT, hW, q⟩ := h
  refine ⟨_, (pss_one (ps_ret (pe_ifExp (PW.pt (pw_and (pt_cmpR op_eq (pe_callB call_len_seq (by rfl) z_len (by decide +kernel) (pa_cons (pv 0) pa_nil)) pe_int (nomark _)) (pw_and (pt_val (pe_call G_is_name (hr.mono (by decide)) rfl m_is_name k_is_name b_is_name .nil pass0 (pa_cons (pe_ix ix_tup (pv 0) pe_int (fun _ _ => rfl)) pa_nil))) (pw_and1 (pt_val (pe_call G_begins_as_function (hr.mono (by decide)) rfl m_begins_as_function k_begins_as_function b_begins_as_function .nil pass0 (pa_cons (pe_ix ix_tup (pv 0) pe_int (fun _ _ => rfl)) pa_nil))))))) (pe_slice sl_tup (pv 0) (po_some pe_int) po_none) pe_non))), ?_⟩
  cases hT with
  | @rc a n v t1 u t2 h1 h2 h3 =>
    walk_at "rd"
    refine ⟨a, _, rfl, .inr (hG.tupS h1), ?_⟩
    walk_at "rd"
    refine ⟨a, _, _, _, rfl, rfl, hG.tupS h1, rfl, ?_⟩
    walk_at "rd"
    refine ⟨hW.hd.2, fun H1 S1 => ⟨_, rfl, ifT rfl ?_⟩⟩
    have G1 := hG.trans S1
    walk_at "rd"
    obtain ⟨b, ys, rfl, hb2⟩ := fn_of hW.rc h2
    refine ⟨a, _, _, _, rfl, rfl, G1.tupS h1, rfl, ?_⟩
    walk_at "rd"
    refine ⟨b, ys, rfl, G1.tupS hb2, fun H2 S2 => ⟨_, rfl, ifT rfl ?_⟩⟩
    walk_at "rd"
    refine ⟨a, _, rfl, (G1.trans S2).tupS h1, (fun z' => absurd (show (2 : Nat) = 0 from z'.1) (by decide)), fun p hp => ?_⟩
    exact q p _ [.ref b, u] ((S1.trans S2).trans (same_new hp _)) (.inr ⟨(S1.trans S2).fr hp, .inr upd_same⟩) (al2 h2 h3)
  | _ => exact absurd hw (of_decide_eq_false (by kernel_rfl))
theorem ok_in_if (S : Stands K mg "inner_of_if" s_inner_of_if ["node"]) (Z : Blt mg) (C : Cst mg) : DefOk P w K mg base CX0 4 "inner_of_if" ["node"] (spIn K "if") := by
  have z_len := Z.len
  obtain ⟨f, fd, F, hm, hb⟩ := S
  refine ⟨f, fd, ?_, hm, F.kp, hb⟩
  have nd := sc_inner_of_if.nd
  refine F.ok sc_inner_of_if (fun vs H Q E h => ?_) (fun cdv A outer s0 H vs Q E hr h => ?_)
  · obtain ⟨v, t, G0, rfl, _⟩ := h
    rfl
  obtain ⟨v, t, G0, rfl, hw, hG, hT, hW, q⟩ := h
  refine ⟨_, (pss_one (ps_ret (pe_ifExp (pt_cmpR op_eq (pe_callB call_len_seq (by rfl) z_len (by decide +kernel) (pa_cons (pv 0) pa_nil)) pe_int (nomark _)) (pe_slice sl_tup (pv 0) (po_some pe_int) po_none) pe_non))), ?_⟩
  cases hT with
  | @cond a v t1 u t2 z t3 h1 h2 h3 h4 =>
    walk_at "rd"
    refine ⟨a, _, rfl, .inr (hG.tupS h1), ?_⟩
    walk_at "rd"
    refine ⟨a, _, rfl, hG.tupS h1, (fun z' => absurd (show (1 : Nat) = 0 from z'.1) (by decide)), fun p hp => ?_⟩
    exact q p _ [v, u, z] ((Same.refl H).trans (same_new hp _)) (.inr ⟨(Same.refl H).fr hp, .inr upd_same⟩) (al3 h2 h3 h4)
  | _ => exact absurd hw (of_decide_eq_false (by kernel_rfl))
theorem ok_in_tuple (S : Stands K mg "inner_of_tuple" s_inner_of_tuple ["node"]) (Z : Blt mg) (C : Cst mg) (H_are_items : DefOk P w K mg base CX0 1 "are_items" ["value"] (spAreItems K)) : DefOk P w K mg base CX0 4 "inner_of_tuple" ["node"] (spIn K "tuple") := by
  have z_len := Z.len
  obtain ⟨f, fd, F, hm, hb⟩ := S
  obtain ⟨f_are_items, fd_are_items, G_are_items, m_are_items, k_are_items, b_are_items⟩ := H_are_items
  refine ⟨f, fd, ?_, hm, F.kp, hb⟩
  have nd := sc_inner_of_tuple.nd
  refine F.ok sc_inner_of_tuple (fun vs H Q E h => ?_) (fun cdv A outer s0 H vs Q E hr h => ?_)
  · obtain ⟨v, t, G0, rfl, _⟩ := h
    rfl
  obtain ⟨v, t, G0, rfl, hw, hG, hT, hW, q⟩ := h
  refine ⟨_, (pss_one (ps_ret (pe_ifExp (PW.pt (pw_and (pt_cmpR op_eq (pe_callB call_len_seq (by rfl) z_len (by decide +kernel) (pa_cons (pv 0) pa_nil)) pe_int (nomark _)) (pw_and1 (pt_val (pe_call G_are_items (hr.mono (by decide)) rfl m_are_items k_are_items b_are_items .nil pass0 (pa_cons (pe_ix ix_tup (pv 0) pe_int (fun _ _ => rfl)) pa_nil)))))) (pe_ix ix_tup (pv 0) pe_int (fun _ _ => rfl)) pe_non))), ?_⟩
  cases hT with
  | @tup a l xs ts h1 h2 h3 h4 =>
    walk_at "rd"
    refine ⟨a, _, rfl, .inr (hG.tupS h1), ?_⟩
    walk_at "rd"
    refine ⟨a, _, _, _, rfl, rfl, hG.tupS h1, rfl, ?_⟩
    walk_at "rd"
    have hd := hW.hd
    simp only [okHd] at hd
    refine ⟨l, xs, rfl, hG.seq h2, by omega, by omega, fun H1 S1 => ⟨_, rfl, ifT rfl ?_⟩⟩
    walk_at "rd"
    refine ⟨a, _, _, _, rfl, rfl, (hG.trans S1).tupS h1, rfl, ?_⟩
    exact q l H1 xs S1 (.inl (.inl h2)) ⟨h3, h4⟩
  | _ => exact absurd hw (of_decide_eq_false (by kernel_rfl))
theorem ok_in_part (S : Stands K mg "inner_of_part" s_inner_of_part ["node"]) (Z : Blt mg) (C : Cst mg) (H_is_integer_within : DefOk P w K mg base CX0 2 "is_integer_within" ["value", "least", "greatest"] spWithin) : DefOk P w K mg base CX0 4 "inner_of_part" ["node"] (spIn K "part") := by
  have z_len := Z.len
  obtain ⟨t_least, c_LEAST_ITEMS⟩ := C.least
  have c_LEAST_ITEMS_r := @rel_int 2 t_least
  obtain ⟨t_items, c_MOST_ITEMS⟩ := C.items
  have c_MOST_ITEMS_r := @rel_int 6 t_items
  obtain ⟨f, fd, F, hm, hb⟩ := S
  obtain ⟨f_is_integer_within, fd_is_integer_within, G_is_integer_within, m_is_integer_within, k_is_integer_within, b_is_integer_within⟩ := H_is_integer_within
  refine ⟨f, fd, ?_, hm, F.kp, hb⟩
  have nd := sc_inner_of_part.nd
  refine F.ok sc_inner_of_part (fun vs H Q E h => ?_) (fun cdv A outer s0 H vs Q E hr h => ?_)
  · obtain ⟨v, t, G0, rfl, _⟩ := h
    rfl
  obtain ⟨v, t, G0, rfl, hw, hG, hT, hW, q⟩ := h
  refine ⟨_, (pss_cons (ps_if (PW.pt (pw_or (pt_cmpR op_ne (pe_callB call_len_seq (by rfl) z_len (by decide +kernel) (pa_cons (pv 0) pa_nil)) pe_int (nomark _)) (pw_or1 (pt_not (pt_val (pe_call G_is_integer_within (hr.mono (by decide)) rfl m_is_integer_within k_is_integer_within b_is_integer_within .nil pass0 (pa_cons (pe_ix ix_tup (pv 0) pe_int (fun _ _ => rfl)) (pa_cons (pe_glob rfl c_LEAST_ITEMS c_LEAST_ITEMS_r) (pa_cons (pe_glob rfl c_MOST_ITEMS c_MOST_ITEMS_r) pa_nil))))))))) (pss_one (ps_ret pe_non)) pss_nil)
      (pss_one (ps_ret (pe_ifExp (pt_val (pe_call G_is_integer_within (hr.mono (by decide)) rfl m_is_integer_within k_is_integer_within b_is_integer_within .nil pass0 (pa_cons (pe_ix ix_tup (pv 0) pe_int (fun _ _ => rfl)) (pa_cons pe_int (pa_cons (pe_op op_sub (pe_ix ix_tup (pv 0) pe_int (fun _ _ => rfl)) pe_int) pa_nil))))) (pe_slice sl_tup (pv 0) (po_some pe_int) po_none) pe_non)))), ?_⟩
  cases hT with
  | @part a k z v t1 h1 h2 =>
    walk_at "rd"
    refine ⟨a, _, rfl, .inr (hG.tupS h1), ?_⟩
    walk_at "rd"
    refine ⟨a, _, _, _, rfl, rfl, hG.tupS h1, rfl, ?_⟩
    walk_at "rd"
    have hd := hW.hd
    simp only [okHd] at hd
    refine ⟨z, 2, 6, rfl, by omega, by omega, fun H1 S1 => ⟨_, rfl, ifF rfl ?_⟩⟩
    have G1 := hG.trans S1
    walk_at "rd"
    refine ⟨a, _, _, _, rfl, rfl, G1.tupS h1, rfl, ?_⟩
    walk_at "rd"
    refine ⟨a, _, _, _, rfl, rfl, G1.tupS h1, rfl, ?_⟩
    walk_at "rd"
    refine ⟨k, 0, z - 1, rfl, by omega, by omega, fun H2 S2 => ⟨_, rfl, ifT rfl ?_⟩⟩
    walk_at "rd"
    refine ⟨a, _, rfl, (G1.trans S2).tupS h1, (fun z' => absurd (show (3 : Nat) = 0 from z'.1) (by decide)), fun p hp => ?_⟩
    exact q p _ [v] ((S1.trans S2).trans (same_new hp _)) (.inr ⟨(S1.trans S2).fr hp, .inr upd_same⟩) (al1 h2)
  | _ => exact absurd hw (of_decide_eq_false (by kernel_rfl))
theorem ok_in_record (S : Stands K mg "inner_of_record" s_inner_of_record ["node"]) (Z : Blt mg) (C : Cst mg) (H_are_fields : DefOk P w K mg base CX0 3 "are_fields" ["value", "most"] (spAreFields K)) : DefOk P w K mg base CX0 4 "inner_of_record" ["node"] (spIn K "record") := by
  have z_len := Z.len
  obtain ⟨t_fields, c_MOST_FIELDS⟩ := C.fields
  have c_MOST_FIELDS_r := @rel_int 12 t_fields
  obtain ⟨f, fd, F, hm, hb⟩ := S
  obtain ⟨f_are_fields, fd_are_fields, G_are_fields, m_are_fields, k_are_fields, b_are_fields⟩ := H_are_fields
  refine ⟨f, fd, ?_, hm, F.kp, hb⟩
  have nd := sc_inner_of_record.nd
  refine F.ok sc_inner_of_record (fun vs H Q E h => ?_) (fun cdv A outer s0 H vs Q E hr h => ?_)
  · obtain ⟨v, t, G0, rfl, _⟩ := h
    rfl
  obtain ⟨v, t, G0, rfl, hw, hG, hT, hW, q⟩ := h
  refine ⟨_, (pss_cons (ps_if (PW.pt (pw_or (pt_cmpR op_ne (pe_callB call_len_seq (by rfl) z_len (by decide +kernel) (pa_cons (pv 0) pa_nil)) pe_int (nomark _)) (pw_or1 (pt_not (pt_val (pe_call G_are_fields (hr.mono (by decide)) rfl m_are_fields k_are_fields b_are_fields .nil pass0 (pa_cons (pe_ix ix_tup (pv 0) pe_int (fun _ _ => rfl)) (pa_cons (pe_glob rfl c_MOST_FIELDS c_MOST_FIELDS_r) pa_nil)))))))) (pss_one (ps_ret pe_non)) pss_nil)
      (pss_one (ps_ret (pe_lc (own := [("_", 1), ("term", 2)]) (g := gTup K 2 (gCons (gName 1) (gCons (gName 2) gNil))) (tt := tYes) rfl nd (pi_list (pe_ix ix_tup (pv 0) pe_int (fun _ _ => rfl))) (blkOk_by (N := N_inner_of_record) (sc := defScope s_inner_of_record) (by decide +kernel)) (fun _ _ _ _ _ => (pg_tup rfl (pgs_cons (pg_name (i := 1) nd rfl (Or.inl rfl)) (pgs_cons (pg_name (i := 2) nd rfl (Or.inl rfl)) pgs_nil)))) (fun _ _ _ _ _ => pts_nil) (fun _ _ _ _ _ => (pv 2)))))), ?_⟩
  cases hT with
  | @record a l bs us ls ts h1 h2 h3 h4 h5 h6 h7 =>
    walk_at "rd"
    refine ⟨a, _, rfl, .inr (hG.tupS h1), ?_⟩
    walk_at "rd"
    refine ⟨a, _, _, _, rfl, rfl, hG.tupS h1, rfl, ?_⟩
    walk_at "rd"
    have hd := hW.hd
    simp only [okHd] at hd
    refine ⟨l, bs, ls, us, rfl, hG.seq h2, by omega, by omega, by omega, fun i b n u e1 e2 e3 => hG.tupS (h6 i b n u e1 e2 e3), hd.2.2.1, hd.2.2.2, fun H1 S1 => ⟨_, rfl, ifF rfl ?_⟩⟩
    have G1 := hG.trans S1
    walk_at "rd"
    refine ⟨a, _, _, _, rfl, rfl, G1.tupS h1, rfl, ?_⟩
    refine ⟨l, rfl, ⟨_, G1.seq h2⟩, fun D hD => ?_⟩
    refine lc_list (K := K) (a := l) (xs := bs.map V.ref) (fun i X => ∃ (G : Hp), Same G X ∧ G D = none ∧ Same H1 G ∧ X D = some (.lst (us.take i)))
      ⟨H1, same_new hD _, hD, Same.refl _, upd_same⟩ (fun i X hi ⟨G, g1, _, g3, _⟩ => (g3.trans g1).seq (G1.seq h2)) ?_ ?_
    · rintro i x X hx ⟨G, g1, g2, g3, g4⟩
      obtain ⟨b, hb1, hb2, rfl⟩ := get_map hx
      have hi := (List.getElem?_eq_some_iff.mp hb2).1
      have hu : us[i]? = some (us[i]'(by omega)) := List.getElem?_eq_getElem (by omega)
      have hn : ls[i]? = some (ls[i]'(by omega)) := List.getElem?_eq_getElem (by omega)
      have ht := (G1.trans (g3.trans g1)).tupS (h6 i b _ _ hb2 hn hu)
      refine ⟨b, _, rfl, ht, rfl, ?_⟩
      refine ⟨_, _, rfl, ⟨_, _, rfl, rfl, ?_⟩⟩
      refine ⟨rfl, ?_⟩
      walk_at "rd"
      refine ⟨_, g4, small1000 (by rw [List.length_take]; omega), G, g1.wr g2, g2, g3, ?_⟩
      rw [upd_same, List.take_add_one, hu]
      rfl
    · rintro X ⟨G, g1, g2, g3, g4⟩
      rw [List.length_map, List.take_of_length_le (by omega)] at g4
      exact q D X us (S1.trans (g3.trans g1)) (.inr ⟨S1.fr hD, .inl g4⟩) ⟨h5, h7⟩
  | _ => exact absurd hw (of_decide_eq_false (by kernel_rfl))
theorem ok_in_field (S : Stands K mg "inner_of_field" s_inner_of_field ["node"]) (Z : Blt mg) (C : Cst mg) (H_is_name : DefOk P w K mg base CX0 1 "is_name" ["value"] spIsName) : DefOk P w K mg base CX0 4 "inner_of_field" ["node"] (spIn K "field") := by
  have z_len := Z.len
  obtain ⟨f, fd, F, hm, hb⟩ := S
  obtain ⟨f_is_name, fd_is_name, G_is_name, m_is_name, k_is_name, b_is_name⟩ := H_is_name
  refine ⟨f, fd, ?_, hm, F.kp, hb⟩
  have nd := sc_inner_of_field.nd
  refine F.ok sc_inner_of_field (fun vs H Q E h => ?_) (fun cdv A outer s0 H vs Q E hr h => ?_)
  · obtain ⟨v, t, G0, rfl, _⟩ := h
    rfl
  obtain ⟨v, t, G0, rfl, hw, hG, hT, hW, q⟩ := h
  refine ⟨_, (pss_one (ps_ret (pe_ifExp (PW.pt (pw_and (pt_cmpR op_eq (pe_callB call_len_seq (by rfl) z_len (by decide +kernel) (pa_cons (pv 0) pa_nil)) pe_int (nomark _)) (pw_and1 (pt_val (pe_call G_is_name (hr.mono (by decide)) rfl m_is_name k_is_name b_is_name .nil pass0 (pa_cons (pe_ix ix_tup (pv 0) pe_int (fun _ _ => rfl)) pa_nil)))))) (pe_slice sl_tup (pv 0) (po_some pe_int) (po_some pe_int)) pe_non))), ?_⟩
  cases hT with
  | @field a v t1 n h1 h2 =>
    walk_at "rd"
    refine ⟨a, _, rfl, .inr (hG.tupS h1), ?_⟩
    walk_at "rd"
    refine ⟨a, _, _, _, rfl, rfl, hG.tupS h1, rfl, ?_⟩
    walk_at "rd"
    refine ⟨hW.hd.2, fun H1 S1 => ⟨_, rfl, ifT rfl ?_⟩⟩
    have G1 := hG.trans S1
    walk_at "rd"
    refine ⟨a, _, rfl, G1.tupS h1, (fun z' => absurd (show (1 : Nat) = 0 from z'.1) (by decide)), fun p hp => ?_⟩
    exact q p _ [v] (S1.trans (same_new hp _)) (.inr ⟨S1.fr hp, .inr upd_same⟩) (al1 h2)
  | _ => exact absurd hw (of_decide_eq_false (by kernel_rfl))
theorem ok_in_with (S : Stands K mg "inner_of_with" s_inner_of_with ["node"]) (Z : Blt mg) (C : Cst mg) (H_is_name : DefOk P w K mg base CX0 1 "is_name" ["value"] spIsName) : DefOk P w K mg base CX0 4 "inner_of_with" ["node"] (spIn K "with") := by
  have z_len := Z.len
  obtain ⟨f, fd, F, hm, hb⟩ := S
  obtain ⟨f_is_name, fd_is_name, G_is_name, m_is_name, k_is_name, b_is_name⟩ := H_is_name
  refine ⟨f, fd, ?_, hm, F.kp, hb⟩
  have nd := sc_inner_of_with.nd
  refine F.ok sc_inner_of_with (fun vs H Q E h => ?_) (fun cdv A outer s0 H vs Q E hr h => ?_)
  · obtain ⟨v, t, G0, rfl, _⟩ := h
    rfl
  obtain ⟨v, t, G0, rfl, hw, hG, hT, hW, q⟩ := h
  refine ⟨_, (pss_one (ps_ret (pe_ifExp (PW.pt (pw_and (pt_cmpR op_eq (pe_callB call_len_seq (by rfl) z_len (by decide +kernel) (pa_cons (pv 0) pa_nil)) pe_int (nomark _)) (pw_and1 (pt_val (pe_call G_is_name (hr.mono (by decide)) rfl m_is_name k_is_name b_is_name .nil pass0 (pa_cons (pe_ix ix_tup (pv 0) pe_int (fun _ _ => rfl)) pa_nil)))))) (pe_tup (pa_cons (pe_ix ix_tup (pv 0) pe_int (fun _ _ => rfl)) (pa_cons (pe_ix ix_tup (pv 0) pe_int (fun _ _ => rfl)) pa_nil))) pe_non))), ?_⟩
  cases hT with
  | @wth a v t1 n u t2 h1 h2 h3 =>
    walk_at "rd"
    refine ⟨a, _, rfl, .inr (hG.tupS h1), ?_⟩
    walk_at "rd"
    refine ⟨a, _, _, _, rfl, rfl, hG.tupS h1, rfl, ?_⟩
    walk_at "rd"
    refine ⟨hW.hd.2, fun H1 S1 => ⟨_, rfl, ifT rfl ?_⟩⟩
    have G1 := hG.trans S1
    walk_at "rd"
    refine ⟨a, _, _, _, rfl, rfl, G1.tupS h1, rfl, ?_⟩
    walk_at "rd"
    refine ⟨a, _, _, _, rfl, rfl, G1.tupS h1, rfl, ?_⟩
    walk_at "rd"
    intro p hp
    exact q p _ [v, u] (S1.trans (same_new hp _)) (.inr ⟨S1.fr hp, .inr upd_same⟩) (al2 h2 h3)
  | _ => exact absurd hw (of_decide_eq_false (by kernel_rfl))
end
end Vt


set_option Elab.async false
set_option linter.all false
set_option maxRecDepth 100000
set_option maxHeartbeats 4000000

namespace Vt
open PySem PySem.Spec PyProof.Rows L2
/-! ### the terms within a node of any kind -/
/-- the table of the kinds: where each word's own def stands -/
structure Kinds (P : Program) (w : World) (K : PySem.W.Frag) (mg : Str → Option Value) (base : Heap) (D : Addr) (es : Array DictEntry) (n : Nat) : Prop where
  at_ : mg "INNER_OF" = some (.ref D)
  kd : KDict K w D es n
  fn : ∀ h : Hd, ∃ f : Addr, PySem.W.nsIn K D h.word = some (some (.ref f)) ∧ Held P w K mg base 4 f (spIn K h.word)
def spInner (K : PySem.W.Frag) : Sp := fun vs H Q _ => ∃ (v : V) (t : T) (G0 : Hp), vs = [v] ∧ Same G0 H ∧ Tm K G0 v t ∧ Wt t ∧
  ∀ (r : Addr) (H' : Hp) (us : List V), Same H H' → Nw K G0 H H' r us → Al (fun u k => Tm K G0 u k) us t.kids → Q (.ref r) H'
abbrev s_inner_terms : Stmt := topS 36
abbrev N_inner_terms : List Str := ["value", "inner_of"]
theorem sc_inner_terms : FnScope N_inner_terms ["value"] (defScope s_inner_terms) := ⟨rfl, rfl, rfl, by decide +kernel, rfl, by decide +kernel, by decide +kernel⟩
section
variable {P : Program} {w : World} {K : PySem.W.Frag} {mg : Str → Option Value} {base : Heap}
theorem ok_inner_terms {D : Addr} {es : Array DictEntry} {n : Nat} (S : Stands K mg "inner_terms" s_inner_terms ["value"]) (Z : Blt mg) (KD : Kinds P w K mg base D es n) : DefOk P w K mg base CX0 5 "inner_terms" ["value"] (spInner K) := by
  have z_isinstance := Z.isinstance
  have z_tuple := Z.tuple
  have z_str := Z.str
  have c_INNER_OF := KD.at_
  have c_INNER_OF_r : RelV (.ref D) (Value.ref D) := rfl
  obtain ⟨f, fd, F, hm, hb⟩ := S
  refine ⟨f, fd, ?_, hm, F.kp, hb⟩
  have nd := sc_inner_terms.nd
  refine F.ok sc_inner_terms (fun vs H Q E h => ?_) (fun cdv A outer s0 H vs Q E hr h => ?_)
  · obtain ⟨v, t, G0, rfl, _⟩ := h
    rfl
  obtain ⟨v, t, G0, rfl, hG, hT, hW, q⟩ := h
  refine ⟨_, (pss_cons (ps_if (PW.pt (pw_or (pt_not (pt_val (pe_callB call_isi (by rfl) z_isinstance (by decide +kernel) (pa_cons (pv 0) (pa_cons (pe_bltn (v := .ty "tuple") (by rfl) z_tuple (by decide +kernel) rfl) pa_nil))))) (pw_or (pt_not (pt_truth (pv 0) (by intro _; rfl))) (pw_or (pt_not (pt_val (pe_callB call_isi (by rfl) z_isinstance (by decide +kernel) (pa_cons (pe_ix ix_tup (pv 0) pe_int (fun _ _ => rfl)) (pa_cons (pe_bltn (v := .ty "str") (by rfl) z_str (by decide +kernel) rfl) pa_nil))))) (pw_or1 (pt_cmpR (op_notIn_kd KD.kd) (pe_ix ix_tup (pv 0) pe_int (fun _ _ => rfl)) (pe_glob rfl c_INNER_OF c_INNER_OF_r) (by rfl))))))) (pss_one (ps_ret pe_non)) pss_nil)
      (pss_cons (ps_set (i := 1) nd rfl (Or.inl rfl) (pe_ix ix_kdict (pe_glob rfl c_INNER_OF c_INNER_OF_r) (pe_ix ix_tup (pv 0) pe_int (fun _ _ => rfl)) (fun _ _ => rfl)))
      (pss_one (ps_ret (pe_held (k := 4) (i := 1) (hr.mono (by decide)) rfl (Or.inl rfl) (pa_cons (pv 0) pa_nil)))))), ?_⟩
  obtain ⟨a, xs, rfl, hx⟩ := (hT.same hG).tuple
  obtain ⟨g, hn, hg⟩ := KD.fn t.hd
  walk_at "rd"
  refine ⟨_, .ty "tuple", _, _, true, rfl, .ty "tuple", tyT hx, kit_ty (by decide +kernel), _, rfl, ?_⟩
  refine ifF rfl ?_
  walk_at "rd"
  refine ⟨true, .inr (.inl ⟨_, hx, rfl⟩), ?_⟩
  refine ifF rfl ?_
  walk_at "rd"
  refine ⟨a, _, _, _, rfl, rfl, hx, at0, ?_⟩
  walk_at "rd"
  refine ⟨_, .ty "str", _, _, true, rfl, .ty "str", .base (.str _), kit_ty (by decide +kernel), _, rfl, ?_⟩
  refine ifF rfl ?_
  walk_at "rd"
  refine ⟨a, _, _, _, rfl, rfl, hx, at0, ?_⟩
  walk_at "rd"
  refine ⟨_, _, rfl, rfl, hn, _, rfl, ?_⟩
  refine ifF rfl ?_
  walk_at "rd"
  refine ⟨a, _, _, _, rfl, rfl, hx, at0, ?_⟩
  refine ⟨D, _, .ref g, rfl, rfl, ⟨es, n, _, KD.kd.at_, KD.kd.lit, hn, rfl⟩, ?_⟩
  walk_at "rd"
  refine ⟨g, _, rfl, hg, ?_⟩
  walk_at "rd"
  exact ⟨.ref a, t, G0, rfl, rfl, hG, hT, hW, q⟩
end
end Vt


set_option Elab.async false
set_option linter.all false
set_option maxRecDepth 100000
set_option maxHeartbeats 4000000

namespace Vt
open PySem PySem.Spec PyProof.Rows L2
/-! ### depth by depth -/
theorem sizes_app (b : List T) : ∀ a : List T, T.sizes (a ++ b) = T.sizes a + T.sizes b
  | [] => by simp [T.sizes]
  | t :: r => by
    simp only [List.cons_append, T.sizes, sizes_app b r]
    omega
theorem deeps_app (b : List T) : ∀ a : List T, T.deeps (a ++ b) = max (T.deeps a) (T.deeps b)
  | [] => by simp [T.deeps]
  | t :: r => by
    simp only [List.cons_append, T.deeps, deeps_app b r]
    omega
theorem sizes_next : ∀ ts : List T, T.sizes ts = ts.length + T.sizes (ts.flatMap T.kids)
  | [] => rfl
  | .node h ks :: r => by
    rw [List.flatMap_cons, sizes_app, T.sizes, sizes_next r, T.size, List.length_cons]
    show 1 + T.sizes ks + _ = _ + (T.sizes ks + _)
    omega
theorem deeps_next : ∀ ts : List T, ts ≠ [] → T.deeps ts = 1 + T.deeps (ts.flatMap T.kids)
  | [], h => absurd rfl h
  | [.node h ks], _ => by
    simp [T.deeps, T.deep]
  | .node h ks :: u :: r, _ => by
    rw [List.flatMap_cons, deeps_app, T.deeps, deeps_next (u :: r) (by simp), T.deep]
    show max (1 + T.deeps ks) _ = 1 + max (T.deeps ks) _
    omega
theorem len_sizes : ∀ ts : List T, ts.length ≤ T.sizes ts := fun ts => by
  rw [sizes_next]
  omega
def spLevels (K : PySem.W.Frag) : Sp := fun vs H Q _ => ∃ (v : V) (t : T) (G0 : Hp), vs = [v] ∧ Same G0 H ∧ Tm K G0 v t ∧ Wt t ∧ t.size ≤ 400 ∧ t.deep ≤ 100 ∧
  ∀ (r : Addr) (H' : Hp) (as : List Addr) (ns : List Nat), Same H H' → H r = none → H' r = some (.lst (as.map V.ref)) → as.length = t.deep → ns.sum = t.size → Al (fun a n => ∃ us, Sq K H' a us ∧ us.length = n) as ns → Q (.ref r) H'
abbrev s_levels_if_term : Stmt := topS 37
abbrev N_levels_if_term : List Str := ["value", "levels", "count", "level", "below", "node", "inner"]
theorem sc_levels_if_term : FnScope N_levels_if_term ["value"] (defScope s_levels_if_term) := ⟨rfl, rfl, rfl, by decide +kernel, rfl, by decide +kernel, by decide +kernel⟩
section
variable {P : Program} {w : World} {K : PySem.W.Frag} {mg : Str → Option Value} {base : Heap}
theorem ok_levels_if_term (S : Stands K mg "levels_if_term" s_levels_if_term ["value"]) (Z : Blt mg) (C : Cst mg) (H_inner_terms : DefOk P w K mg base CX0 5 "inner_terms" ["value"] (spInner K)) : DefOk P w K mg base CX0 6 "levels_if_term" ["value"] (spLevels K) := by
  have z_len := Z.len
  obtain ⟨t4, c_MOST_NODES⟩ := C.nodes
  have c_MOST_NODES_r := @rel_int 400 t4
  obtain ⟨t1, c_MOST_DEPTH⟩ := C.depth
  have c_MOST_DEPTH_r := @rel_int 100 t1
  obtain ⟨f, fd, F, hm, hb⟩ := S
  obtain ⟨f_inner_terms, fd_inner_terms, G_inner_terms, m_inner_terms, k_inner_terms, b_inner_terms⟩ := H_inner_terms
  refine ⟨f, fd, ?_, hm, F.kp, hb⟩
  have nd := sc_levels_if_term.nd
  refine F.ok sc_levels_if_term (fun vs H Q E h => ?_) (fun cdv A outer s0 H vs Q E hr h => ?_)
  · obtain ⟨v, t, G0, rfl, _⟩ := h
    rfl
  obtain ⟨v, t, G0, rfl, hG, hT, hW, hsz, hdp, q⟩ := h
  refine ⟨_, (pss_cons (ps_set (i := 1) nd rfl (Or.inl rfl) (pe_lst pa_nil))
      (pss_cons (ps_set (i := 2) nd rfl (Or.inl rfl) pe_int)
      (pss_cons (ps_set (i := 3) nd rfl (Or.inl rfl) (pe_tup (pa_cons (pv 0) pa_nil)))
      (pss_cons (ps_while PassesOwn.never (pt_truth (pv 3) (by intro _; rfl)) (pss_cons (ps_aug (i := 2) nd rfl (Or.inl rfl) (pe_callB call_len_seq (by rfl) z_len (by decide +kernel) (pa_cons (pv 3) pa_nil)) ip_add)
      (pss_cons (ps_if (PW.pt (pw_or (pt_cmpR op_gt (pv 2) (pe_glob rfl c_MOST_NODES c_MOST_NODES_r) (nomark _)) (pw_or1 (pt_cmpR op_eq (pe_callB call_len_seq (by rfl) z_len (by decide +kernel) (pa_cons (pv 1) pa_nil)) (pe_glob rfl c_MOST_DEPTH c_MOST_DEPTH_r) (nomark _))))) (pss_one (ps_ret pe_non)) pss_nil)
      (pss_cons (ps_expr (pe_bm PySem.F.plainAttrs_list PySem.F.slot_list_append PySem.F.type_list_append mt_append (pv 1) (pa_cons (pv 3) pa_nil)))
      (pss_cons (ps_set (i := 4) nd rfl (Or.inl rfl) (pe_lst pa_nil))
      (pss_cons (ps_for PassesOwn.never rfl (pi_either (pi_list (pv 3)) (pi_tup (pv 3))) (pg_name (i := 5) nd rfl (Or.inl rfl)) (pss_cons (ps_set (i := 6) nd rfl (Or.inl rfl) (pe_call G_inner_terms (hr.mono (by decide)) rfl m_inner_terms k_inner_terms b_inner_terms .nil pass0 (pa_cons (pv 5) pa_nil)))
      (pss_cons (ps_if (pt_cmpR op_isN (pv 6) pe_non (nomark _)) (pss_one (ps_ret pe_non)) pss_nil)
      (pss_one (ps_expr (pe_bm PySem.F.plainAttrs_list PySem.F.slot_list_extend PySem.F.type_list_extend mt_extA (pv 4) (pa_cons (pv 6) pa_nil)))))))
      (pss_one (ps_set (i := 3) nd rfl (Or.inl rfl) (pv 4)))))))))
      (pss_one (ps_ret (pv 1))))))), ?_⟩
  walk_at "rd"
  intro D hD
  have SD := same_new hD (.lst [])
  have hD1 := @upd_same H D (.lst [])
  have oD : Same H (off D (upd H D (.lst []))) := SD.off hD
  generalize upd H D (.lst []) = H1 at *
  walk_at "rd"
  intro a ha
  have Sa := same_new ha (.tup [v])
  have ta : SqT K (off D (upd H1 a (.tup [v]))) a [v] := tup_off (zs := []) (SqT.of upd_same) (Sa _ _ hD1)
  have hD2 := Sa _ _ hD1
  have S2 := SD.trans Sa
  generalize upd H1 a (.tup [v]) = H2 at *
  have o2 : Same H (off D H2) := S2.off hD
  unfold gName
  dsimp only
  unfold tSeq
  dsimp only
  refine while_by (fun σ X => ∃ (a : Addr) (us : List V) (ts : List T) (as : List Addr) (ns : List Nat) (s4 s5 s6 : Option V) (G : Hp), σ = [some v, some (.ref D), some (.int (ns.sum : Nat)), some (.ref a), s4, s5, s6] ∧ Same G X ∧ G D = none ∧ Same H G ∧
    X D = some (.lst (as.map V.ref)) ∧ Sq K G a us ∧ Al (fun u k => Tm K G0 u k) us ts ∧ (∀ k ∈ ts, Wt k) ∧ Al (fun a n => ∃ us, Sq K G a us ∧ us.length = n) as ns ∧ ns.sum + T.sizes ts = t.size ∧ as.length + T.deeps ts = t.deep)
    (fun σ X => match X D with | some (.lst ls) => 100 - ls.length | _ => 0) ?_ ?_ ?_
  · exact ⟨a, [v], [t], [], [], none, none, none, off D H2, rfl, off_same, off_at, o2, hD2, .inr ta, al1 hT, (fun k hk => by rw [List.mem_singleton.mp hk]; exact hW), Al.nil, by simp [T.sizes], by simp [T.deeps]⟩
  · rintro σ X ⟨a, us, ts, as, ns, s4, s5, s6, G, rfl, g1, g2, g3, hX, ha, hal, hw, hlv, e1, e2⟩
    walk_at "rd"
    refine ⟨!us.isEmpty, (ha.same g1).elim (fun z => .inl ⟨_, z, rfl⟩) (fun z => .inr (.inl ⟨_, z, rfl⟩)), ?_⟩
    cases us with
    | nil =>
      refine ifF rfl ?_
      have ets : ts = [] := List.eq_nil_of_length_eq_zero hal.1.symm
      subst ets
      walk_at "rd"
      refine q D X as ns (g3.trans g1) hD hX (by simpa [T.deeps] using e2) (by simpa [T.sizes] using e1) (hlv.mono fun b n _ ⟨us, z, e⟩ => ⟨us, z.same g1, e⟩)
    | cons u0 ur =>
      refine ifT rfl ?_
      have hts : ts ≠ [] := fun z => by
        subst z
        cases hal.1
      have hsum := sizes_next ts
      have hdeep := deeps_next ts hts
      have hlen := hal.1
      have hpos : 1 ≤ ts.length := by
        rw [← hlen]
        simp
      generalize u0 :: ur = us at *
      walk_at "rd"
      refine ⟨a, us, rfl, (ha.same g1), ?_⟩
      walk_at "rd"
      refine ifF (decide_eq_false (show ¬ (400 : Int) < ((ns.sum : Nat) : Int) + ((us.length : Nat) : Int) by have := len_sizes ts; omega)) ?_
      walk_at "rd"
      refine ⟨D, _, rfl, .inl (SqL.of hX), ?_⟩
      walk_at "rd"
      refine ifF (decide_eq_false (fun z => by injection z with z; rw [List.length_map] at z; omega)) ?_
      walk_at "rd"
      have hl100 : (as.map V.ref).length ≤ 100 := by rw [List.length_map]; omega
      refine ⟨.inl ⟨rfl, _, SqL.of hX⟩, ?_⟩
      walk_at "rd"
      refine ⟨D, _, _, rfl, rfl, hX, small1000 (by omega), ?_⟩
      have hX1 := @upd_same X D (.lst (as.map V.ref ++ [V.ref a]))
      have g4 : Same G (upd X D (.lst (as.map V.ref ++ [V.ref a]))) := g1.wr g2
      generalize upd X D (.lst (as.map V.ref ++ [V.ref a])) = X1 at *
      walk_at "rd"
      intro B hB
      have hBD : B ≠ D := (ne_of_none hX1 hB).symm
      have hGB : G B = none := g4.fr hB
      have g5 : Same G (upd X1 B (.lst [])) := g4.trans (same_new hB _)
      have hX2 : upd X1 B (.lst []) D = some (.lst (as.map V.ref ++ [V.ref a])) := (upd_ne hBD.symm).trans hX1
      have hB2 := @upd_same X1 B (.lst [])
      generalize upd X1 B (.lst []) = X2 at *
      have hbound : (ts.flatMap T.kids).length ≤ 400 := by have := len_sizes (ts.flatMap T.kids); omega
      dsimp only
      refine for_sq (n := 3) (G := G) (a := a) (xs := us) ?_ ha (fun i σ Y => ∃ (bs : List V) (s5 s6 : Option V), σ = [some v, some (.ref D), some (.int (((ns.sum : Nat) : Int) + ((us.length : Nat) : Int))), some (.ref a), some (.ref B), s5, s6] ∧ Same G Y ∧
        Y D = some (.lst (as.map V.ref ++ [V.ref a])) ∧ Y B = some (.lst bs) ∧ Al (fun u k => Tm K G0 u k) bs ((ts.take i).flatMap T.kids)) ?_ (fun i σ Y ⟨_, _, _, _, z, _⟩ => z) ?_ ?_
      · rfl
      · exact ⟨[], _, _, rfl, g5, hX2, hB2, Al.nil⟩
      · rintro i x σ Y hx ⟨bs, s5, s6, rfl, k1, k2, k3, k4⟩
        have hi := (List.getElem?_eq_some_iff.mp hx).1
        have ht : ts[i]? = some (ts[i]'(by omega)) := List.getElem?_eq_getElem (by omega)
        have htm := hal.2 i x _ hx ht
        have hwt := hw _ (List.getElem_mem (by omega : i < ts.length))
        have etk : (ts.take (i + 1)).flatMap T.kids = (ts.take i).flatMap T.kids ++ (ts[i]'(by omega)).kids := by
          rw [List.take_add_one, ht, List.flatMap_append]
          show _ ++ (_ ++ []) = _
          rw [List.append_nil]
        have elen : ((ts.take (i + 1)).flatMap T.kids).length ≤ (ts.flatMap T.kids).length := by
          have z := congrArg (fun l => (l.flatMap T.kids).length) (List.take_append_drop (i + 1) ts)
          simp only [List.flatMap_append, List.length_append] at z
          omega
        generalize ts[i]'(by omega) = k at *
        refine ⟨_, rfl, ?_⟩
        walk_at "rd"
        refine ⟨x, k, G0, rfl, hG.trans (g3.trans k1), htm, hwt, fun r Y1 vs S1 hr halv => ?_⟩
        refine ⟨_, rfl, ?_⟩
        walk_at "rd"
        have hlk := congrArg List.length etk
        rw [List.length_append] at hlk
        have hv1 := halv.1
        have hb1 := k4.1
        refine ⟨.inl ⟨rfl, _, SqL.of (S1 _ _ k3)⟩, ?_⟩
        walk_at "rd"
        refine ⟨B, r, bs, vs, rfl, rfl, S1 _ _ k3, hr.sq (hG.trans (g3.trans (k1.trans S1))), sz (by omega), ?_⟩
        refine ⟨bs ++ vs, _, _, rfl, (k1.trans S1).wr hGB, (upd_ne hBD.symm).trans (S1 _ _ k2), upd_same, ?_⟩
        rw [etk]
        exact k4.app halv
      · rintro σ Y ⟨bs, s5, s6, rfl, k1, k2, k3, k4⟩
        walk_at "rd"
        rw [hlen, List.take_length] at k4
        have gD : Same G (off D Y) := k1.off g2
        refine ⟨⟨B, bs, ts.flatMap T.kids, as ++ [a], ns ++ [us.length], some (.ref B), s5, s6, off D Y, ?_, off_same, off_at, g3.trans gD, ?_, .inl (SqL.of ((off_ne hBD).trans k3)), k4, ?_, ?_, ?_, ?_⟩, ?_⟩
        · simp
        · rw [k2]
          simp
        · intro k hk
          obtain ⟨u, hu, hk⟩ := List.mem_flatMap.mp hk
          cases u
          exact (hw _ hu).kid hk
        · exact (hlv.mono fun b n _ ⟨us, z, e⟩ => ⟨us, z.same gD, e⟩).snoc ⟨us, ha.same gD, rfl⟩
        · rw [List.sum_append]
          simp only [List.sum_cons, List.sum_nil]
          omega
        · rw [List.length_append]
          simp only [List.length_cons, List.length_nil]
          omega
        · rw [k2, hX]
          simp only [List.length_append, List.length_map, List.length_cons, List.length_nil]
          omega
  · intro σ X Q1 Q2 m z
    obtain ⟨x, e, k, e1, z⟩ := z
    exact ⟨x, e, k, e1, m _ _ z⟩
end
end Vt


set_option Elab.async false
set_option linter.all false
set_option maxRecDepth 100000
set_option maxHeartbeats 4000000

namespace Vt
open PySem PySem.Spec PyProof.Rows L2
/-! ### nodes with their paths -/
theorem Al.pop {α β : Type} {R : α → β → Prop} {xs : List α} {ys : List β} {y : β} (h : Al R xs (ys ++ [y])) : ∃ xs' x, xs = xs' ++ [x] ∧ Al R xs' ys ∧ R x y := by
  have hl := h.1
  rw [List.length_append, List.length_cons, List.length_nil] at hl
  rcases List.eq_nil_or_concat xs with e | ⟨l, x, e⟩
  · subst e
    simp at hl
  · rw [List.concat_eq_append] at e
    subst e
    have hll : l.length = ys.length := by simpa using hl
    refine ⟨l, x, rfl, ⟨hll, fun i a b ha hb => ?_⟩, ?_⟩
    · have hi := (List.getElem?_eq_some_iff.mp ha).1
      exact h.2 i a b (by rw [List.getElem?_append_left hi]; exact ha) (by rw [List.getElem?_append_left (by omega)]; exact hb)
    · exact h.2 ys.length x y (by rw [← hll]; simp) (by simp)
/-- the terms within a node, each with its path -/
def krow (p : List Nat) : List T → Nat → List (List Nat × T)
  | [], _ => []
  | t :: r, i => (p ++ [i], t) :: krow p r (i + 1)
theorem krow_len (p : List Nat) : ∀ (ks : List T) (i : Nat), (krow p ks i).length = ks.length
  | [], _ => rfl
  | t :: r, i => by rw [krow, List.length_cons, krow_len p r, List.length_cons]
theorem krow_get (p : List Nat) : ∀ (ks : List T) (i j : Nat), (krow p ks i)[j]? = (ks[j]?).map fun k => (p ++ [i + j], k)
  | [], _, _ => by simp [krow]
  | t :: r, i, 0 => by simp [krow]
  | t :: r, i, j + 1 => by
    rw [krow, List.getElem?_cons_succ, List.getElem?_cons_succ, krow_get p r (i + 1) j, show i + 1 + j = i + (j + 1) by omega]
theorem krow_rows (p : List Nat) : ∀ (ks : List T) (i : Nat), (krow p ks i).flatMap (fun r => r.2.rows r.1) = T.rowsL ks p i
  | [], _ => rfl
  | t :: r, i => by rw [krow, List.flatMap_cons, krow_rows p r, T.rowsL]
theorem krow_mem {p : List Nat} {ks : List T} {i : Nat} {r : List Nat × T} (h : r ∈ krow p ks i) : r.2 ∈ ks ∧ r.1.length = p.length + 1 := by
  obtain ⟨j, hj⟩ := List.mem_iff_getElem?.mp h
  rw [krow_get] at hj
  cases e : ks[j]? with
  | none => rw [e] at hj; cases hj
  | some k =>
    rw [e] at hj
    cases hj
    exact ⟨List.mem_of_getElem? e, by simp⟩
theorem flat_len {f : List Nat × T → List (List Nat × T)} (hf : ∀ r, 1 ≤ (f r).length) : ∀ l : List (List Nat × T), l.length ≤ (l.flatMap f).length
  | [] => Nat.le_refl _
  | x :: l => by
    have := flat_len hf l
    have := hf x
    rw [List.flatMap_cons, List.length_append, List.length_cons]
    omega
/-- all but two lists that are being changed -/
def gh (D E : Addr) (H : Hp) : Hp := Vt.off D (Vt.off E H)
theorem gh_ne {D E b : Addr} {H : Hp} (h1 : b ≠ D) (h2 : b ≠ E) : gh D E H b = H b := by
  unfold gh
  rw [off_ne h1, off_ne h2]
theorem gh_D {D E : Addr} {H : Hp} : gh D E H D = none := off_at
theorem gh_E {D E : Addr} {H : Hp} : gh D E H E = none := by
  unfold gh
  by_cases e : E = D
  · rw [e, off_at]
  · rw [off_ne e, off_at]
theorem gh_some {D E b : Addr} {H : Hp} {o : HO} (h : gh D E H b = some o) : b ≠ D ∧ b ≠ E ∧ H b = some o := by
  have h1 : b ≠ D := fun z => by rw [z, gh_D] at h; cases h
  have h2 : b ≠ E := fun z => by rw [z, gh_E] at h; cases h
  rw [gh_ne h1 h2] at h
  exact ⟨h1, h2, h⟩
theorem gh_same {D E : Addr} {H : Hp} : Same (gh D E H) H := fun b o h => (gh_some h).2.2
theorem gh_mono {D E : Addr} {H H' : Hp} (s : Same H H') : Same (gh D E H) (gh D E H') := fun b o h => by
  obtain ⟨h1, h2, h3⟩ := gh_some h
  rw [gh_ne h1 h2]
  exact s b o h3
theorem gh_upD {D E : Addr} {H : Hp} {o : HO} : Same (gh D E H) (gh D E (L2.upd H D o)) := fun b u h => by
  obtain ⟨h1, h2, h3⟩ := gh_some h
  rw [gh_ne h1 h2, upd_ne h1]
  exact h3
theorem gh_upE {D E : Addr} {H : Hp} {o : HO} : Same (gh D E H) (gh D E (L2.upd H E o)) := fun b u h => by
  obtain ⟨h1, h2, h3⟩ := gh_some h
  rw [gh_ne h1 h2, upd_ne h2]
  exact h3
theorem gh_of {G H : Hp} {D E : Addr} (s : Same G H) (hD : G D = none) (hE : G E = none) : Same G (gh D E H) := fun b o h => by
  rw [gh_ne (ne_of_none h hD) (ne_of_none h hE)]
  exact s b o h
theorem gh_tup {K : PySem.W.Frag} {H : Hp} {D E : Addr} {xs ys : List V} (hD : H D = some (.lst xs)) (hE : H E = some (.lst ys)) {a : Addr} {zs : List V} (q : SqT K H a zs) : SqT K (gh D E H) a zs := by
  rcases q with (q | ⟨o, q⟩) | q
  · exact .inl (.inl (by rw [gh_ne (fun e => by rw [e, hD] at q; cases q) (fun e => by rw [e, hE] at q; cases q)]; exact q))
  · exact .inl (.inr ⟨o, by rw [gh_ne (fun e => by rw [e, hD] at q; cases q) (fun e => by rw [e, hE] at q; cases q)]; exact q⟩)
  · exact .inr q
theorem Row.gh {K : PySem.W.Frag} {G H : Hp} {v : V} {r : List Nat × T} (h : Row K G H v r) {D E : Addr} {xs ys : List V} (hD : H D = some (.lst xs)) (hE : H E = some (.lst ys)) : Row K G (Vt.gh D E H) v r := by
  obtain ⟨b, pa, u, e, h1, h2, h3⟩ := h
  exact ⟨b, pa, u, e, gh_tup hD hE h1, gh_tup hD hE h2, h3⟩
theorem Nw.ghost {K : PySem.W.Frag} {G0 H H' : Hp} {r : Addr} {us : List V} (h : Nw K G0 H H' r us) {D E : Addr} {o o' : HO} (hD : H D = some o) (hE : H E = some o') (s : Same G0 (Vt.gh D E H')) : Sq K (Vt.gh D E H') r us := by
  rcases h with h | ⟨n, h⟩
  · exact h.same s
  · have e := @gh_ne D E r H' (ne_of_none hD n).symm (ne_of_none hE n).symm
    rcases h with h | h
    · exact .inl (SqL.of (by rw [e]; exact h))
    · exact .inr (SqT.of (by rw [e]; exact h))
theorem ix_sq {K : PySem.W.Frag} {H : Hp} {r : Addr} {us : List V} {i : Int} {x : V} {Q : VK} (h : Sq K H r us) (e : atI us i = some x) (q : Q x H) : rIxL K (.ref r) (.int i) H Q ∨ rIxT K (.ref r) (.int i) H Q :=
  h.elim (fun z => .inl ⟨r, us, i, x, rfl, rfl, z, e, q⟩) fun z => .inr ⟨r, us, i, x, rfl, rfl, z, e, q⟩
def spRows (K : PySem.W.Frag) : Sp := fun vs H Q _ => ∃ (v : V) (t : T) (G0 : Hp), vs = [v] ∧ Same G0 H ∧ Tm K G0 v t ∧ Wt t ∧ t.size ≤ 400 ∧ t.deep ≤ 100 ∧
  ∀ (r : Addr) (H' : Hp) (ws : List V), Same H H' → H r = none → H' r = some (.lst ws) → Al (Row K G0 H') ws (t.rows []) → Q (.ref r) H'
abbrev s_nodes_with_paths : Stmt := topS 38
abbrev N_nodes_with_paths : List Str := ["value", "found", "waiting", "path", "node", "inner", "step"]
theorem sc_nodes_with_paths : FnScope N_nodes_with_paths ["value"] (defScope s_nodes_with_paths) := ⟨rfl, rfl, rfl, by decide +kernel, rfl, by decide +kernel, by decide +kernel⟩
section
variable {P : Program} {w : World} {K : PySem.W.Frag} {mg : Str → Option Value} {base : Heap}
theorem ok_nodes_with_paths (S : Stands K mg "nodes_with_paths" s_nodes_with_paths ["value"]) (Z : Blt mg) (C : Cst mg) (H_inner_terms : DefOk P w K mg base CX0 5 "inner_terms" ["value"] (spInner K)) : DefOk P w K mg base CX0 6 "nodes_with_paths" ["value"] (spRows K) := by
  have z_len := Z.len
  have z_range := Z.range
  obtain ⟨t4, c_MOST_NODES⟩ := C.nodes
  have c_MOST_NODES_r := @rel_int 400 t4
  obtain ⟨t1, c_MOST_DEPTH⟩ := C.depth
  have c_MOST_DEPTH_r := @rel_int 100 t1
  obtain ⟨f, fd, F, hm, hb⟩ := S
  obtain ⟨f_inner_terms, fd_inner_terms, G_inner_terms, m_inner_terms, k_inner_terms, b_inner_terms⟩ := H_inner_terms
  refine ⟨f, fd, ?_, hm, F.kp, hb⟩
  have nd := sc_nodes_with_paths.nd
  refine F.ok sc_nodes_with_paths (fun vs H Q E h => ?_) (fun cdv A outer s0 H vs Q E hr h => ?_)
  · obtain ⟨v, t, G0, rfl, _⟩ := h
    rfl
  obtain ⟨v, t, G0, rfl, hG, hT, hW, hsz, hdp, q⟩ := h
  refine ⟨_, (pss_cons (ps_set (i := 1) nd rfl (Or.inl rfl) (pe_lst pa_nil))
      (pss_cons (ps_set (i := 2) nd rfl (Or.inl rfl) (pe_lst (pa_cons (pe_tup (pa_cons (pe_tup pa_nil) (pa_cons (pv 0) pa_nil))) pa_nil)))
      (pss_cons (ps_while PassesOwn.never (pt_truth (pv 2) (by intro _; rfl)) (pss_cons (ps_asg (pe_bm0 PySem.F.plainAttrs_list PySem.F.slot_list_pop PySem.F.type_list_pop mt_pop (pv 2)) (pg_tup rfl (pgs_cons (pg_name (i := 3) nd rfl (Or.inl rfl)) (pgs_cons (pg_name (i := 4) nd rfl (Or.inl rfl)) pgs_nil))))
      (pss_cons (ps_if (pt_cmpR op_eq (pe_callB call_len_seq (by rfl) z_len (by decide +kernel) (pa_cons (pv 1) pa_nil)) (pe_glob rfl c_MOST_NODES c_MOST_NODES_r) (nomark _)) (pss_one (ps_never)) pss_nil)
      (pss_cons (ps_if (pt_cmpR op_eq (pe_callB call_len_seq (by rfl) z_len (by decide +kernel) (pa_cons (pv 3) pa_nil)) (pe_glob rfl c_MOST_DEPTH c_MOST_DEPTH_r) (nomark _)) (pss_one (ps_never)) pss_nil)
      (pss_cons (ps_set (i := 5) nd rfl (Or.inl rfl) (pe_call G_inner_terms (hr.mono (by decide)) rfl m_inner_terms k_inner_terms b_inner_terms .nil pass0 (pa_cons (pv 4) pa_nil)))
      (pss_cons (ps_if (pt_cmpR op_isN (pv 5) pe_non (nomark _)) (pss_one (ps_never)) pss_nil)
      (pss_cons (ps_expr (pe_bm PySem.F.plainAttrs_list PySem.F.slot_list_append PySem.F.type_list_append mt_append (pv 1) (pa_cons (pe_tup (pa_cons (pv 3) (pa_cons (pv 4) pa_nil))) pa_nil)))
      (pss_one (ps_for PassesOwn.never rfl (pi_range3 (by rfl) z_range (pa_cons (pe_op op_sub (pe_callB call_len_seq (by rfl) z_len (by decide +kernel) (pa_cons (pv 5) pa_nil)) pe_int) (pa_cons (pe_un un_neg pe_int) (pa_cons (pe_un un_neg pe_int) pa_nil)))) (pg_name (i := 6) nd rfl (Or.inl rfl)) (pss_one (ps_expr (pe_bm PySem.F.plainAttrs_list PySem.F.slot_list_append PySem.F.type_list_append mt_append (pv 2) (pa_cons (pe_tup (pa_cons (pe_op op_catA (pv 3) (pe_tup (pa_cons (pv 6) pa_nil))) (pa_cons (pe_ix (IxR.or ix_list ix_tup) (pv 5) (pv 6) (fun _ _ => rfl)) pa_nil))) pa_nil)))))))))))))
      (pss_one (ps_ret (pv 1)))))), ?_⟩
  walk_at "rd"
  intro D hD
  have SD := same_new hD (.lst [])
  have hD1 := @upd_same H D (.lst [])
  generalize upd H D (.lst []) = H1 at *
  walk_at "rd"
  intro p0 hp0
  have S0 := same_new hp0 (.tup [])
  have h0 := @upd_same H1 p0 (.tup [])
  have hD2 := S0 _ _ hD1
  have SD2 := SD.trans S0
  clear hD1 SD
  generalize upd H1 p0 (.tup []) = H2 at *
  walk_at "rd"
  intro p1 hp1
  have Sa := same_new hp1 (.tup [V.ref p0, v])
  have R1 : Row K G0 (upd H2 p1 (.tup [V.ref p0, v])) (.ref p1) ([], t) := ⟨p1, p0, v, rfl, SqT.of upd_same, SqT.of (Sa _ _ h0), hT⟩
  have hD3 := Sa _ _ hD2
  have SD3 := SD2.trans Sa
  clear S0 h0 hD2 SD2 Sa hp1 hp0
  generalize upd H2 p1 (.tup [V.ref p0, v]) = H3 at *
  walk_at "rd"
  intro E hE
  have Sb := same_new hE (.lst [V.ref p1])
  have hED : E ≠ D := (ne_of_none hD3 hE).symm
  have hE4 := @upd_same H3 E (.lst [V.ref p1])
  have hD4 := Sb _ _ hD3
  have SD4 := SD3.trans Sb
  have R4 := (R1.same Sb).gh hD4 hE4
  have hHE : H E = none := SD3.fr hE
  have o4 := gh_of SD4 hD hHE
  clear Sb hE R1
  generalize upd H3 E (.lst [V.ref p1]) = H4 at *
  refine gName_to ?_
  refine nx_seq ?_
  refine while_by (fun σ X => ∃ (fs ws : List V) (done st : List (List Nat × T)) (s3 s4 s5 s6 : Option V) (G : Hp), σ = [some v, some (.ref D), some (.ref E), s3, s4, s5, s6] ∧ Same G X ∧ G D = none ∧ G E = none ∧ Same H G ∧
    X D = some (.lst fs) ∧ X E = some (.lst ws) ∧ Al (Row K G0 G) fs done ∧ Al (Row K G0 G) ws st ∧ (∀ r ∈ st, Wt r.2 ∧ r.1.length + r.2.deep ≤ 100) ∧ done ++ st.reverse.flatMap (fun r => r.2.rows r.1) = t.rows [])
    (fun σ X => match X D with | some (.lst ls) => 400 - ls.length | _ => 0) ?_ ?_ ?_
  · exact ⟨[], [.ref p1], [], [([], t)], none, none, none, none, gh D E H4, rfl, gh_same, gh_D, gh_E, o4, hD4, hE4, Al.nil, al1 R4, (fun r hr => by rw [List.mem_singleton.mp hr]; exact ⟨hW, by simpa using hdp⟩), by simp⟩
  · rintro σ X ⟨fs, ws, done, st, s3, s4, s5, s6, G, rfl, g1, g2, g3, g4, hXD, hXE, hdone, hst, hok, hrows⟩
    walk_at "rd"
    refine ⟨!ws.isEmpty, .inl ⟨_, SqL.of hXE, rfl⟩, ?_⟩
    rcases List.eq_nil_or_concat st with e | ⟨st0, ⟨p, k⟩, e⟩
    · subst e
      have ews : ws = [] := List.eq_nil_of_length_eq_zero hst.1
      subst ews
      refine ifF rfl ?_
      walk_at "rd"
      simp only [List.reverse_nil, List.flatMap_nil, List.append_nil] at hrows
      subst hrows
      exact q D X fs (g4.trans g1) hD hXD ⟨hdone.1, fun i a b x y => (hdone.2 i a b x y).same g1⟩
    · rw [List.concat_eq_append] at e
      subst e
      obtain ⟨ws0, x, rfl, hst0, b, pa, u, rfl, hb1, hb2, hb3⟩ := hst.pop
      have hk := hok (p, k) (by simp)
      have hok0 : ∀ r ∈ st0, Wt r.2 ∧ r.1.length + r.2.deep ≤ 100 := fun r hr => hok r (by simp [hr])
      rw [List.reverse_append, List.flatMap_append] at hrows
      simp only [List.reverse_cons, List.reverse_nil, List.nil_append, List.flatMap_cons, List.flatMap_nil, List.append_nil] at hrows
      have hlen := congrArg List.length hrows
      rw [List.length_append, List.length_append, rows_len, rows_len] at hlen
      have hfl : fs.length = done.length := hdone.1
      have hsk : 1 ≤ k.size := by cases k; simp only [T.size]; omega
      refine ifT (by simp) ?_
      walk_at "rd"
      refine ⟨.inl ⟨rfl, _, SqL.of hXE⟩, ?_⟩
      refine ⟨E, _, .ref b, rfl, rfl, hXE, by simp, ?_⟩
      rw [List.dropLast_concat]
      have gX1 : Same G (upd X E (.lst ws0)) := g1.wr g3
      have hXE1 := @upd_same X E (.lst ws0)
      have hXD1 : upd X E (.lst ws0) D = some (.lst fs) := (upd_ne hED.symm).trans hXD
      generalize upd X E (.lst ws0) = X1 at *
      refine ⟨b, _, rfl, gX1.tupS hb1, rfl, ?_⟩
      refine ⟨_, _, rfl, ⟨_, _, rfl, rfl, ?_⟩⟩
      walk_at "rd"
      refine ⟨D, _, rfl, .inl (SqL.of hXD1), ?_⟩
      walk_at "rd"
      refine ifF (decide_eq_false (fun z => by injection z with z; omega)) ?_
      walk_at "rd"
      refine ⟨pa, nums p, rfl, .inr (gX1.tupS hb2), ?_⟩
      walk_at "rd"
      refine ifF (decide_eq_false (fun z => by
        injection z with z
        have z2 : (nums p).length = p.length := by simp [nums]
        have hkd : 1 ≤ k.deep := by cases k; simp only [T.deep]; omega
        have : p.length + k.deep ≤ 100 := hk.2
        omega)) ?_
      walk_at "rd"
      refine ⟨u, k, G0, rfl, hG.trans (g4.trans gX1), hb3, hk.1, fun r X2 us S2 hr hal => ?_⟩
      refine ⟨_, rfl, ?_⟩
      walk_at "rd"
      have hXD2 := S2 _ _ hXD1
      have hXE2 := S2 _ _ hXE1
      have gX2 := gX1.trans S2
      have gr : Sq K (gh D E X2) r us := hr.ghost hXD1 hXE1 (gh_of (hG.trans (g4.trans gX2)) (hG.fr hD) (hG.fr hHE))
      have gG : Same G (gh D E X2) := gh_of gX2 g2 g3
      clear hr
      refine ⟨.inl ⟨rfl, _, SqL.of hXD2⟩, ?_⟩
      walk_at "rd"
      intro T0 hT0
      have ST := same_new hT0 (.tup [V.ref pa, u])
      have RT : Row K G0 (upd X2 T0 (.tup [V.ref pa, u])) (.ref T0) (p, k) := ⟨T0, pa, u, rfl, SqT.of upd_same, ST.tupS (gX2.tupS hb2), hb3⟩
      have hXD3 := ST _ _ hXD2
      have hXE3 := ST _ _ hXE2
      have gG3 := gG.trans (gh_mono (D := D) (E := E) ST)
      replace gr := gr.same (gh_mono (D := D) (E := E) ST)
      clear hXD2 hXE2 ST hT0
      generalize upd X2 T0 (.tup [V.ref pa, u]) = X3 at *
      refine ⟨D, fs, .ref T0, rfl, rfl, hXD3, small1000 (by omega), ?_⟩
      have up := @gh_upD D E X3 (.lst (fs ++ [V.ref T0]))
      have hXD4 := @upd_same X3 D (.lst (fs ++ [V.ref T0]))
      have hXE4 : upd X3 D (.lst (fs ++ [V.ref T0])) E = some (.lst ws0) := (upd_ne hED).trans hXE3
      replace RT := (RT.gh hXD3 hXE3).same up
      replace gr := gr.same up
      have gG4 := gG3.trans up
      clear up hXD3 hXE3 gG3
      generalize upd X3 D (.lst (fs ++ [V.ref T0])) = X4 at *
      have hul := hal.1
      have hkl : k.kids.length ≤ 12 := by
        cases k
        exact hk.1.few
      have hkrl := krow_len p k.kids 0
      walk_at "rd"
      refine ⟨r, us, rfl, gr.same gh_same, ?_⟩
      walk_at "rd"
      have hrg : RgC (((us.length : Nat) : Int) - 1) (-1) (-1) us.length := by
        have z := RgC.neg (i := ((us.length : Nat) : Int) - 1) (j := -1) (by omega) (by omega) (by decide) (by decide)
        rw [show ((((us.length : Nat) : Int) - 1) - (-1)).toNat = us.length by omega] at z
        exact z
      refine ⟨_, _, _, _, rfl, hrg, ?_⟩
      refine for_it walk_rangeC (fun i σ Y => ∃ (s6 : Option V) (ws' : List V), σ = [some v, some (.ref D), some (.ref E), some (.ref pa), some u, some (.ref r), s6] ∧ Same (gh D E X4) (gh D E Y) ∧
        Y D = some (.lst (fs ++ [V.ref T0])) ∧ Y E = some (.lst ws') ∧ Al (Row K G0 (gh D E Y)) ws' (st0 ++ (krow p k.kids 0).reverse.take i)) ?_ (fun _ _ _ _ _ => trivial) ?_ ?_
      · exact ⟨_, ws0, rfl, Same.refl _, hXD4, hXE4, by rw [List.take_zero, List.append_nil]; exact ⟨hst0.1, fun i a b x y => (hst0.2 i a b x y).same gG4⟩⟩
      · rintro i x σ Y Y' hi ⟨s6, ws', rfl, k1, k2, k3, k4⟩ ⟨rfl, rfl⟩
        have hj : us.length - 1 - i < us.length := by omega
        have hjk : us.length - 1 - i < k.kids.length := by omega
        have huj : us[us.length - 1 - i]? = some (us[us.length - 1 - i]'hj) := List.getElem?_eq_getElem hj
        have hkj : k.kids[us.length - 1 - i]? = some (k.kids[us.length - 1 - i]'hjk) := List.getElem?_eq_getElem hjk
        have htm := hal.2 _ _ _ huj hkj
        have hat : atI us (((us.length : Nat) : Int) - 1 + ((i : Nat) : Int) * -1) = some (us[us.length - 1 - i]'hj) := by
          rw [show ((us.length : Nat) : Int) - 1 + ((i : Nat) : Int) * -1 = ((us.length - 1 - i : Nat) : Int) by omega]
          exact atI_nat huj
        have hkr : (krow p k.kids 0).reverse[i]? = some (p ++ [us.length - 1 - i], k.kids[us.length - 1 - i]'hjk) := by
          rw [List.getElem?_reverse (by omega), krow_get, hkrl, ← hul, hkj, Nat.zero_add]
          rfl
        generalize us[us.length - 1 - i]'hj = uj at *
        generalize k.kids[us.length - 1 - i]'hjk = kj at *
        have gY : Same G Y' := gG4.trans (k1.trans gh_same)
        have hp100 : p.length + k.deep ≤ 100 := hk.2
        have hws : ws'.length ≤ 800 := by
          have e1 := k4.1
          have e2 := hst0.1
          have e3 := flat_len (f := fun r => r.2.rows r.1) (fun r => by rw [rows_len]; cases r.2; simp only [T.size]; omega) st0.reverse
          rw [List.length_append, List.length_take, List.length_reverse] at e1
          rw [List.length_reverse] at e3
          omega
        refine gName_to ?_
        walk_at "rd"
        refine ⟨.inl ⟨rfl, _, SqL.of k3⟩, ?_⟩
        walk_at "rd"
        intro T1 hT1
        have S5 := same_new hT1 (.tup [V.int (((us.length : Nat) : Int) - 1 + ((i : Nat) : Int) * -1)])
        refine catA_of (xs := nums p) ((gY.trans S5).tupS hb2) (SqT.of upd_same) (sz (by simp [nums]; omega)) fun pp Y2 S6 hpp => ?_
        have S7 := S5.trans S6
        clear S5 S6
        walk_at "rd"
        refine ix_sq (gr.same ((k1.trans gh_same).trans S7)) hat ?_
        walk_at "rd"
        intro T2 hT2
        have S8 := S7.trans (same_new hT2 (.tup [V.ref pp, uj]))
        have RT2 : Row K G0 (upd Y2 T2 (.tup [V.ref pp, uj])) (.ref T2) (p ++ [us.length - 1 - i], kj) := by
          refine ⟨T2, pp, uj, rfl, SqT.of upd_same, (same_new hT2 _).tupS ?_, htm⟩
          rw [nums_snoc, show ((us.length - 1 - i : Nat) : Int) = ((us.length : Nat) : Int) - 1 + ((i : Nat) : Int) * -1 by omega]
          exact hpp
        have hYD := S8 _ _ k2
        have hYE := S8 _ _ k3
        have gS8 := gh_mono (D := D) (E := E) S8
        clear S7 S8 hT2 hpp hT1
        generalize upd Y2 T2 (.tup [V.ref pp, uj]) = Y3 at *
        refine ⟨E, ws', .ref T2, rfl, rfl, hYE, small1000 (by omega), ?_⟩
        have up := @gh_upE D E Y3 (.lst (ws' ++ [V.ref T2]))
        refine ⟨_, ws' ++ [.ref T2], rfl, k1.trans (gS8.trans up), (upd_ne hED.symm).trans hYD, upd_same, ?_⟩
        rw [List.take_add_one, hkr, ← List.append_assoc]
        exact Al.snoc ⟨k4.1, fun i a b x y => (k4.2 i a b x y).same (gS8.trans up)⟩ ((RT2.gh hYD hYE).same up)
      · rintro σ Y ⟨s6, ws', rfl, k1, k2, k3, k4⟩
        rw [List.take_of_length_le (by rw [List.length_reverse]; omega)] at k4
        refine ⟨⟨fs ++ [.ref T0], ws', done ++ [(p, k)], st0 ++ (krow p k.kids 0).reverse, _, _, _, _, gh D E Y, rfl, gh_same, gh_D, gh_E, g4.trans (gG4.trans k1), k2, k3, ?_, k4, ?_, ?_⟩, ?_⟩
        · exact Al.snoc ⟨hdone.1, fun i a b x y => (hdone.2 i a b x y).same (gG4.trans k1)⟩ (RT.same k1)
        · intro r hr
          rcases List.mem_append.mp hr with hr | hr
          · exact hok0 r hr
          · obtain ⟨m1, m2⟩ := krow_mem (List.mem_reverse.mp hr)
            cases k with
            | node h ks =>
              have z : r.2.deep ≤ T.deeps ks := deep_kid m1
              have z2 : p.length + T.deep (.node h ks) ≤ 100 := hk.2
              simp only [T.deep] at z2
              exact ⟨Wt.kid hk.1 m1, by omega⟩
        · rw [← hrows, List.reverse_append, List.reverse_reverse, List.flatMap_append, krow_rows]
          cases k
          simp only [T.rows, List.append_assoc, List.cons_append, List.nil_append]
        · rw [k2, hXD]
          simp only [List.length_append, List.length_cons, List.length_nil]
          omega
  · intro σ X Q1 Q2 m z
    obtain ⟨x, e, k, e1, z⟩ := z
    exact ⟨x, e, k, e1, m _ _ z⟩
end
end Vt


set_option Elab.async false
set_option linter.all false
set_option maxRecDepth 100000
set_option maxHeartbeats 4000000

namespace Vt
open PySem PySem.Spec PyProof.Rows L2
/-! ### check_term, paths -/
def spChecked (K : PySem.W.Frag) : Sp := fun vs H Q _ => ∃ (v : V) (t : T) (G0 : Hp), vs = [v] ∧ Same G0 H ∧ Tm K G0 v t ∧ Wt t ∧ t.size ≤ 400 ∧ t.deep ≤ 100 ∧ ∀ H', Same H H' → Q .non H'
def spPathsOf (K : PySem.W.Frag) : Sp := fun vs H Q _ => ∃ (v : V) (t : T) (G0 : Hp), vs = [v] ∧ Same G0 H ∧ Tm K G0 v t ∧ Wt t ∧ t.size ≤ 400 ∧ t.deep ≤ 100 ∧
  ∀ (r : Addr) (H' : Hp) (ws : List V), Same H H' → H r = none → H' r = some (.lst ws) → Al (fun (v : V) (p : List Nat) => ∃ b, v = .ref b ∧ SqT K H' b (nums p)) ws ((t.rows []).map Prod.fst) → Q (.ref r) H'
abbrev s_levels_of : Stmt := topS 39
abbrev N_levels_of : List Str := ["term", "levels"]
theorem sc_levels_of : FnScope N_levels_of ["term"] (defScope s_levels_of) := ⟨rfl, rfl, rfl, by decide +kernel, rfl, by decide +kernel, by decide +kernel⟩
abbrev s_check_term : Stmt := topS 40
abbrev N_check_term : List Str := ["value"]
theorem sc_check_term : FnScope N_check_term ["value"] (defScope s_check_term) := ⟨rfl, rfl, rfl, by decide +kernel, rfl, by decide +kernel, by decide +kernel⟩
abbrev s_paths : Stmt := topS 43
abbrev N_paths : List Str := ["term", "path", "_"]
theorem sc_paths : FnScope N_paths ["term"] (defScope s_paths) := ⟨rfl, rfl, rfl, by decide +kernel, rfl, by decide +kernel, by decide +kernel⟩
section
variable {P : Program} {w : World} {K : PySem.W.Frag} {mg : Str → Option Value} {base : Heap}
theorem ok_levels_of (S : Stands K mg "levels_of" s_levels_of ["term"]) (Z : Blt mg) (H_levels_if_term : DefOk P w K mg base CX0 6 "levels_if_term" ["value"] (spLevels K)) : DefOk P w K mg base CX0 7 "levels_of" ["term"] (spLevels K) := by
  obtain ⟨f, fd, F, hm, hb⟩ := S
  obtain ⟨f_levels_if_term, fd_levels_if_term, G_levels_if_term, m_levels_if_term, k_levels_if_term, b_levels_if_term⟩ := H_levels_if_term
  refine ⟨f, fd, ?_, hm, F.kp, hb⟩
  have nd := sc_levels_of.nd
  refine F.ok sc_levels_of (fun vs H Q E h => ?_) (fun cdv A outer s0 H vs Q E hr h => ?_)
  · obtain ⟨v, t, G0, rfl, _⟩ := h
    rfl
  obtain ⟨v, t, G0, rfl, hG, hT, hW, hsz, hdp, q⟩ := h
  refine ⟨_, (pss_cons (ps_set (i := 1) nd rfl (Or.inl rfl) (pe_call G_levels_if_term (hr.mono (by decide)) rfl m_levels_if_term k_levels_if_term b_levels_if_term .nil pass0 (pa_cons (pv 0) pa_nil)))
      (C8.pss_cut (ps_if (pt_cmpR op_isN (pv 1) pe_non (nomark _)) (pss_one (ps_never)) pss_nil)
      (pss_one (ps_ret (pv 1))))), ?_⟩
  walk_at "rd"
  refine ⟨v, t, G0, rfl, hG, hT, hW, hsz, hdp, fun r H1 as ns S1 hr hl e1 e2 al => ?_⟩
  refine gName_to ?_
  refine ⟨fun σ X => σ = [some v, some (.ref r)] ∧ X = H1, ?_, ?_⟩
  · walk_at "rd"
    rfl
  · rintro σ X ⟨rfl, rfl⟩
    walk_at "rd"
    exact q r _ as ns S1 hr hl e1 e2 al
theorem ok_check_term (S : Stands K mg "check_term" s_check_term ["value"]) (H_levels_of : DefOk P w K mg base CX0 7 "levels_of" ["term"] (spLevels K)) : DefOkF P w K mg base CX0 8 "check_term" s_check_term ["value"] (spChecked K) := by
  obtain ⟨f, fd, F, hm, hb⟩ := S
  obtain ⟨f_levels_of, fd_levels_of, G_levels_of, m_levels_of, k_levels_of, b_levels_of⟩ := H_levels_of
  refine ⟨f, fd, F, ?_, hm, F.kp, hb⟩
  have nd := sc_check_term.nd
  refine F.ok sc_check_term (fun vs H Q E h => ?_) (fun cdv A outer s0 H vs Q E hr h => ?_)
  · obtain ⟨v, t, G0, rfl, _⟩ := h
    rfl
  obtain ⟨v, t, G0, rfl, hG, hT, hW, hsz, hdp, q⟩ := h
  refine ⟨_, (pss_one (ps_expr (pe_call G_levels_of (hr.mono (by decide)) rfl m_levels_of k_levels_of b_levels_of .nil pass0 (pa_cons (pv 0) pa_nil)))), ?_⟩
  walk_at "rd"
  exact ⟨v, t, G0, rfl, hG, hT, hW, hsz, hdp, fun r H1 as ns S1 hr hl e1 e2 al => q H1 S1⟩
theorem ok_paths (S : Stands K mg "paths" s_paths ["term"]) (H_nodes_with_paths : DefOk P w K mg base CX0 6 "nodes_with_paths" ["value"] (spRows K)) : DefOkF P w K mg base CX0 7 "paths" s_paths ["term"] (spPathsOf K) := by
  obtain ⟨f, fd, F, hm, hb⟩ := S
  obtain ⟨f_nodes_with_paths, fd_nodes_with_paths, G_nodes_with_paths, m_nodes_with_paths, k_nodes_with_paths, b_nodes_with_paths⟩ := H_nodes_with_paths
  refine ⟨f, fd, F, ?_, hm, F.kp, hb⟩
  have nd := sc_paths.nd
  refine F.ok sc_paths (fun vs H Q E h => ?_) (fun cdv A outer s0 H vs Q E hr h => ?_)
  · obtain ⟨v, t, G0, rfl, _⟩ := h
    rfl
  obtain ⟨v, t, G0, rfl, hG, hT, hW, hsz, hdp, q⟩ := h
  refine ⟨_, (pss_one (ps_ret (pe_lc (own := [("path", 1), ("_", 2)]) (g := gTup K 2 (gCons (gName 1) (gCons (gName 2) gNil))) (tt := tYes) rfl nd (pi_list (pe_call G_nodes_with_paths (hr.mono (by decide)) rfl m_nodes_with_paths k_nodes_with_paths b_nodes_with_paths .nil pass0 (pa_cons (pv 0) pa_nil))) (blkOk_by (N := N_paths) (sc := defScope s_paths) (by decide +kernel)) (fun _ _ _ _ _ => (pg_tup rfl (pgs_cons (pg_name (i := 1) nd rfl (Or.inl rfl)) (pgs_cons (pg_name (i := 2) nd rfl (Or.inl rfl)) pgs_nil)))) (fun _ _ _ _ _ => pts_nil) (fun _ _ _ _ _ => (pv 1))))), ?_⟩
  walk_at "rd"
  refine ⟨v, t, G0, rfl, hG, hT, hW, hsz, hdp, fun r H1 ws S1 hr hl al => ?_⟩
  refine ⟨r, rfl, ⟨_, SqL.of hl⟩, fun D hD => ?_⟩
  have hlen : ws.length ≤ 400 := by
    have e := al.1
    rw [rows_len] at e
    omega
  refine lc_list (K := K) (a := r) (xs := ws) (fun i X => ∃ (us : List V), Same H1 (off D X) ∧ X D = some (.lst us) ∧ Al (fun (v : V) (p : List Nat) => ∃ b, v = .ref b ∧ SqT K H1 b (nums p)) us (((t.rows []).take i).map Prod.fst))
    ⟨[], (same_new hD _).off hD, upd_same, Al.nil⟩ (fun i X hi ⟨us, g1, _⟩ => SqL.of (off_same _ _ (g1 _ _ hl))) ?_ ?_
  · rintro i x X hx ⟨us, g1, g2, g3⟩
    have hi := (List.getElem?_eq_some_iff.mp hx).1
    have hrow : (t.rows [])[i]? = some ((t.rows [])[i]'(by have := al.1; omega)) := List.getElem?_eq_getElem (by have := al.1; omega)
    obtain ⟨b, pa, u, rfl, h1, h2, h3⟩ := al.2 i x _ hx hrow
    generalize (t.rows [])[i]'(by have := al.1; omega) = row at *
    have gX := g1.trans off_same
    refine ⟨b, _, rfl, gX.tupS h1, rfl, ?_⟩
    refine ⟨_, _, rfl, ⟨_, _, rfl, rfl, ?_⟩⟩
    refine ⟨rfl, ?_⟩
    walk_at "rd"
    refine ⟨us, g2, small1000 (by have z := g3.1; rw [List.length_map, List.length_take] at z; omega), us ++ [.ref pa], g1.trans ?_, upd_same, ?_⟩
    · exact (off_same (D := D)).wr off_at |>.off off_at
    · rw [List.take_add_one, hrow, List.map_append]
      exact g3.snoc ⟨pa, rfl, h2⟩
  · rintro X ⟨us, g1, g2, g3⟩
    have e : (t.rows []).take ws.length = t.rows [] := List.take_of_length_le (by rw [al.1]; exact Nat.le_refl _)
    rw [e] at g3
    have gX := g1.trans off_same
    exact q D X us (S1.trans gX) (S1.fr hD) g2 (g3.mono fun v p _ ⟨b, e, z⟩ => ⟨b, e, gX.tupS z⟩)
end
end Vt


set_option Elab.async false
set_option linter.all false
set_option maxRecDepth 100000
set_option maxHeartbeats 4000000

namespace Vt
open PySem PySem.Spec PyProof.Rows L2
/-! ### copies -/
theorem Cl.up {K : PySem.W.Frag} {R R' : Addr → Prop} {H H' : Hp} (r : ∀ b, R b → R' b) (s : Same H H') {n : Nat} {v : V} (h : Cl K H R n v) : ∀ {m : Nat}, n ≤ m → Cl K H' R' m v := by
  induction h with
  | str => exact fun _ => .str
  | int => exact fun _ => .int
  | bl => exact fun _ => .bl
  | @tup n a xs h _ ih =>
    intro m l
    obtain ⟨m', rfl⟩ : ∃ m', m = m' + 1 := ⟨m - 1, by omega⟩
    exact .tup (s.tupS h) fun x hx => ih x hx (by omega)
  | @lst n a xs h1 h2 _ ih =>
    intro m l
    obtain ⟨m', rfl⟩ : ∃ m', m = m' + 1 := ⟨m - 1, by omega⟩
    exact .lst (r _ h1) (s _ _ h2) fun x hx => ih x hx (by omega)
/-- what is neither a list nor a tuple -/
def isSc : V → Bool
  | .str _ => true
  | .int _ => true
  | .bl _ => true
  | _ => false
theorem sc_cl {K : PySem.W.Frag} {H : Hp} {R : Addr → Prop} {n : Nat} {v : V} (h : isSc v = true) : Cl K H R n v := by
  cases v <;> first | exact .str | exact .int | exact .bl | cases h
/-- what stands in a node's tuple: a value of its own, or a term -/
abbrev Sh := V ⊕ T
def Fit1 (K : PySem.W.Frag) (H : Hp) (y : V) : Sh → Prop
  | .inl c => y = c
  | .inr k => Tm K H y k
def Fit (K : PySem.W.Frag) (H : Hp) (ys : List V) (sh : List Sh) : Prop := Al (fun y s => Fit1 K H y s) ys sh
theorem Fit.same {K : PySem.W.Frag} {H H' : Hp} (s : Same H H') {ys : List V} {sh : List Sh} (h : Fit K H ys sh) : Fit K H' ys sh := h.mono fun y x _ z => by
  cases x
  · exact z
  · exact Tm.same s z
theorem Fit.cons {K : PySem.W.Frag} {H : Hp} {zs : List V} {x : Sh} {r : List Sh} (h : Fit K H zs (x :: r)) : ∃ z zs', zs = z :: zs' ∧ Fit1 K H z x ∧ Fit K H zs' r := by
  obtain ⟨l, f⟩ := h
  cases zs with
  | nil => cases l
  | cons z zs' => exact ⟨z, zs', rfl, f 0 z x rfl rfl, by simpa using l, fun i a b c d => f (i + 1) a b (by simpa using c) (by simpa using d)⟩
theorem Fit.nil {K : PySem.W.Frag} {H : Hp} {zs : List V} (h : Fit K H zs []) : zs = [] := List.eq_nil_of_length_eq_zero h.1
theorem Fit.c {K : PySem.W.Frag} {H : Hp} {zs : List V} {x : Sh} {r : List Sh} {z : V} (a : Fit1 K H z x) (h : Fit K H zs r) : Fit K H (z :: zs) (x :: r) := by
  obtain ⟨l, f⟩ := h
  refine ⟨by simp [l], fun i a' b c d => ?_⟩
  match i, c, d with
  | 0, c, d => cases c; cases d; exact a
  | i + 1, c, d => exact f i a' b (by simpa using c) (by simpa using d)
theorem Fit.n {K : PySem.W.Frag} {H : Hp} : Fit K H [] [] := Al.nil
/-- a node that is no tuple and no record -/
theorem Tm.shape {K : PySem.W.Frag} {G : Hp} {a : Addr} {t : T} (h : Tm K G (.ref a) t) (c1 : t.hd.isTup = false) (c2 : t.hd.isRecord = false) : ∃ (sh : List Sh) (ys : List V), SqT K G a ys ∧ Fit K G ys sh ∧ sh.length ≤ 4 ∧
    (∀ s ∈ sh, match s with | .inl c => isSc c = true | .inr k => k ∈ t.kids) ∧ ∀ (H : Hp) (b : Addr) (zs : List V), SqT K H b zs → Fit K H zs sh → Tm K H (.ref b) t := by
  cases h with
  | @var _ n h1 =>
    refine ⟨[.inl (.str "var"), .inl (.str n)], _, h1, .c rfl (.c rfl .n), by simp, by simp [isSc], fun H b zs s f => ?_⟩
    obtain ⟨_, _, rfl, rfl, f1⟩ := f.cons
    obtain ⟨_, _, rfl, rfl, f2⟩ := f1.cons
    cases f2.nil
    exact .var s
  | @int _ k h1 =>
    refine ⟨[.inl (.str "int"), .inl (.int k)], _, h1, .c rfl (.c rfl .n), by simp, by simp [isSc], fun H b zs s f => ?_⟩
    obtain ⟨_, _, rfl, rfl, f1⟩ := f.cons
    obtain ⟨_, _, rfl, rfl, f2⟩ := f1.cons
    cases f2.nil
    exact .int s
  | @bool _ x h1 =>
    refine ⟨[.inl (.str "bool"), .inl (.bl x)], _, h1, .c rfl (.c rfl .n), by simp, by simp [isSc], fun H b zs s f => ?_⟩
    obtain ⟨_, _, rfl, rfl, f1⟩ := f.cons
    obtain ⟨_, _, rfl, rfl, f2⟩ := f1.cons
    cases f2.nil
    exact .bool s
  | @fn _ n v t1 h1 h2 =>
    refine ⟨[.inl (.str "fun"), .inl (.str n), .inr t1], _, h1, .c rfl (.c rfl (.c h2 .n)), by simp, by simp [isSc], fun H b zs s f => ?_⟩
    obtain ⟨_, _, rfl, rfl, f1⟩ := f.cons
    obtain ⟨_, _, rfl, rfl, f2⟩ := f1.cons
    obtain ⟨_, _, rfl, z1, f3⟩ := f2.cons
    cases f3.nil
    exact .fn s z1
  | @app _ v t1 u t2 h1 h2 h3 =>
    refine ⟨[.inl (.str "app"), .inr t1, .inr t2], _, h1, .c rfl (.c h2 (.c h3 .n)), by simp, by simp [isSc], fun H b zs s f => ?_⟩
    obtain ⟨_, _, rfl, rfl, f1⟩ := f.cons
    obtain ⟨_, _, rfl, z1, f2⟩ := f1.cons
    obtain ⟨_, _, rfl, z2, f3⟩ := f2.cons
    cases f3.nil
    exact .app s z1 z2
  | @lt _ n v t1 u t2 h1 h2 h3 =>
    refine ⟨[.inl (.str "let"), .inl (.str n), .inr t1, .inr t2], _, h1, .c rfl (.c rfl (.c h2 (.c h3 .n))), by simp, by simp [isSc], fun H b zs s f => ?_⟩
    obtain ⟨_, _, rfl, rfl, f1⟩ := f.cons
    obtain ⟨_, _, rfl, rfl, f2⟩ := f1.cons
    obtain ⟨_, _, rfl, z1, f3⟩ := f2.cons
    obtain ⟨_, _, rfl, z2, f4⟩ := f3.cons
    cases f4.nil
    exact .lt s z1 z2
  | @rc _ n v t1 u t2 h1 h2 h3 =>
    refine ⟨[.inl (.str "rec"), .inl (.str n), .inr t1, .inr t2], _, h1, .c rfl (.c rfl (.c h2 (.c h3 .n))), by simp, by simp [isSc], fun H b zs s f => ?_⟩
    obtain ⟨_, _, rfl, rfl, f1⟩ := f.cons
    obtain ⟨_, _, rfl, rfl, f2⟩ := f1.cons
    obtain ⟨_, _, rfl, z1, f3⟩ := f2.cons
    obtain ⟨_, _, rfl, z2, f4⟩ := f3.cons
    cases f4.nil
    exact .rc s z1 z2
  | @cond _ v t1 u t2 z t3 h1 h2 h3 h4 =>
    refine ⟨[.inl (.str "if"), .inr t1, .inr t2, .inr t3], _, h1, .c rfl (.c h2 (.c h3 (.c h4 .n))), by simp, by simp [isSc], fun H b zs s f => ?_⟩
    obtain ⟨_, _, rfl, rfl, f1⟩ := f.cons
    obtain ⟨_, _, rfl, z1, f2⟩ := f1.cons
    obtain ⟨_, _, rfl, z2, f3⟩ := f2.cons
    obtain ⟨_, _, rfl, z3, f4⟩ := f3.cons
    cases f4.nil
    exact .cond s z1 z2 z3
  | @part _ k z v t1 h1 h2 =>
    refine ⟨[.inl (.str "part"), .inl (.int k), .inl (.int z), .inr t1], _, h1, .c rfl (.c rfl (.c rfl (.c h2 .n))), by simp, by simp [isSc], fun H b zs s f => ?_⟩
    obtain ⟨_, _, rfl, rfl, f1⟩ := f.cons
    obtain ⟨_, _, rfl, rfl, f2⟩ := f1.cons
    obtain ⟨_, _, rfl, rfl, f3⟩ := f2.cons
    obtain ⟨_, _, rfl, z1, f4⟩ := f3.cons
    cases f4.nil
    exact .part s z1
  | @field _ v t1 n h1 h2 =>
    refine ⟨[.inl (.str "field"), .inr t1, .inl (.str n)], _, h1, .c rfl (.c h2 (.c rfl .n)), by simp, by simp [isSc], fun H b zs s f => ?_⟩
    obtain ⟨_, _, rfl, rfl, f1⟩ := f.cons
    obtain ⟨_, _, rfl, z1, f2⟩ := f1.cons
    obtain ⟨_, _, rfl, rfl, f3⟩ := f2.cons
    cases f3.nil
    exact .field s z1
  | @wth _ v t1 n u t2 h1 h2 h3 =>
    refine ⟨[.inl (.str "with"), .inr t1, .inl (.str n), .inr t2], _, h1, .c rfl (.c h2 (.c rfl (.c h3 .n))), by simp, by simp [isSc], fun H b zs s f => ?_⟩
    obtain ⟨_, _, rfl, rfl, f1⟩ := f.cons
    obtain ⟨_, _, rfl, z1, f2⟩ := f1.cons
    obtain ⟨_, _, rfl, rfl, f3⟩ := f2.cons
    obtain ⟨_, _, rfl, z2, f4⟩ := f3.cons
    cases f4.nil
    exact .wth s z1 z2
  | tup _ _ _ _ => cases c1
  | record _ _ _ _ _ _ _ => cases c2
/-- new behind a later call, but for a list that is being made -/
theorem nw_in2 {H X X' : Hp} {D : Addr} {o : HO} (s : Same H X) (h : X D = some o) : Same (nw X X') (nw H (off D X')) := fun b u e => by
  obtain ⟨e1, e2⟩ := nw_get e
  have n : b ≠ D := fun z => by rw [z, h] at e1; cases e1
  rw [nw_of (s.fr e1), off_ne n]
  exact e2
theorem nw_up {H X : Hp} {D : Addr} {o : HO} : Same (nw H (off D X)) (nw H (off D (L2.upd X D o))) := nw_same fun b u e => by
  by_cases z : b = D
  · rw [z, off_at] at e
    cases e
  · rw [off_ne z] at e ⊢
    rw [upd_ne z]
    exact e
theorem nw_offs {H X X' : Hp} {D : Addr} (s : Same X X') : Same (nw H (off D X)) (nw H (off D X')) := nw_same fun b u e => by
  by_cases z : b = D
  · rw [z, off_at] at e
    cases e
  · rw [off_ne z] at e ⊢
    exact s b u e
theorem nw_off_sub {H X : Hp} {D : Addr} : Same (nw H (off D X)) (nw H X) := nw_same off_same
def spCopied (K : PySem.W.Frag) (n : Nat) : Sp := fun vs H Q _ => ∃ (v : V) (t : T) (G0 : Hp), vs = [v] ∧ Same G0 H ∧ Tm K G0 v t ∧ Wt t ∧ t.deep ≤ n ∧
  ∀ (u : V) (H' : Hp) (R : Addr → Prop), Same H H' → Tm K (nw H H') u t → Lists (nw H H') R → Cl K (nw H H') R (3 * t.deep) u → Q u H'
abbrev s_copied : Stmt := topS 44
abbrev N_copied : List Str := ["term", "item", "name", "inner", "held"]
theorem sc_copied : FnScope N_copied ["term"] (defScope s_copied) := ⟨rfl, rfl, rfl, by decide +kernel, rfl, by decide +kernel, by decide +kernel⟩
section
variable {P : Program} {w : World} {K : PySem.W.Frag} {mg : Str → Option Value} {base : Heap}
theorem ok_copied {n : Nat} (S : Stands K mg "copied" s_copied ["term"]) (Z : Blt mg) (H_copied : DefOk P w K mg base CX0 (n + 1) "copied" ["term"] (spCopied K n)) : DefOk P w K mg base CX0 (n + 2) "copied" ["term"] (spCopied K (n + 1)) := by
  have z_isinstance := Z.isinstance
  have z_tuple := Z.tuple
  obtain ⟨f, fd, F, hm, hb⟩ := S
  obtain ⟨f_copied, fd_copied, G_copied, m_copied, k_copied, b_copied⟩ := H_copied
  refine ⟨f, fd, ?_, hm, F.kp, hb⟩
  have nd := sc_copied.nd
  refine F.ok sc_copied (fun vs H Q E h => ?_) (fun cdv A outer s0 H vs Q E hr h => ?_)
  · obtain ⟨v, t, G0, rfl, _⟩ := h
    rfl
  obtain ⟨v, t, G0, rfl, hG, hT, hW, hdp, q⟩ := h
  refine ⟨_, (pss_cons (ps_if (pt_cmpR op_eq (pe_ix ix_tup (pv 0) pe_int (fun _ _ => rfl)) pe_str (nomark _)) (pss_one (ps_ret (pe_tup (pa_cons pe_str (pa_cons (pe_lc (own := [("item", 1)]) (g := gName 1) (tt := tYes) rfl nd (pi_list (pe_ix ix_tup (pv 0) pe_int (fun _ _ => rfl))) (blkOk_by (N := N_copied) (sc := defScope s_copied) (by decide +kernel)) (fun _ _ _ _ _ => (pg_name (i := 1) nd rfl (Or.inl rfl))) (fun _ _ _ _ _ => pts_nil) (fun _ _ _ _ _ => (pe_call G_copied (hr.mono (by omega)) rfl m_copied k_copied b_copied .nil pass0 (pa_cons (pv 1) pa_nil)))) pa_nil))))) pss_nil)
      (pss_cons (ps_if (pt_cmpR op_eq (pe_ix ix_tup (pv 0) pe_int (fun _ _ => rfl)) pe_str (nomark _)) (pss_one (ps_ret (pe_tup (pa_cons pe_str (pa_cons (pe_lc (own := [("name", 2), ("inner", 3)]) (g := gTup K 2 (gCons (gName 2) (gCons (gName 3) gNil))) (tt := tYes) rfl nd (pi_list (pe_ix ix_tup (pv 0) pe_int (fun _ _ => rfl))) (blkOk_by (N := N_copied) (sc := defScope s_copied) (by decide +kernel)) (fun _ _ _ _ _ => (pg_tup rfl (pgs_cons (pg_name (i := 2) nd rfl (Or.inl rfl)) (pgs_cons (pg_name (i := 3) nd rfl (Or.inl rfl)) pgs_nil)))) (fun _ _ _ _ _ => pts_nil) (fun _ _ _ _ _ => (pe_tup (pa_cons (pv 2) (pa_cons (pe_call G_copied (hr.mono (by omega)) rfl m_copied k_copied b_copied .nil pass0 (pa_cons (pv 3) pa_nil)) pa_nil))))) pa_nil))))) pss_nil)
      (pss_one (ps_ret (pe_callTy call_tuple_of (by rfl) z_tuple (by decide +kernel) (pa_cons (pe_lc (own := [("held", 4)]) (g := gName 4) (tt := tYes) rfl nd (pi_tup (pv 0)) (blkOk_by (N := N_copied) (sc := defScope s_copied) (by decide +kernel)) (fun _ _ _ _ _ => (pg_name (i := 4) nd rfl (Or.inl rfl))) (fun _ _ _ _ _ => pts_nil) (fun _ _ _ _ _ => (pe_ifExp (pt_val (pe_callB (r := rIsi K) call_isi (by rfl) z_isinstance (by decide +kernel) (pa_cons (pv 4) (pa_cons (pe_bltn (v := .ty "tuple") (by rfl) z_tuple (by decide +kernel) rfl) pa_nil)))) (pe_call G_copied (hr.mono (by omega)) rfl m_copied k_copied b_copied .nil pass0 (pa_cons (pv 4) pa_nil)) (pv 4)))) pa_nil)))))), ?_⟩
  obtain ⟨a, xs, rfl, hx⟩ := (hT.same hG).tuple
  walk_at "rd"
  refine ⟨a, _, _, _, rfl, rfl, hx, at0, ?_⟩
  walk_at "rd"
  show (if decide (V.str t.hd.word = V.str "tuple") = true then _ else _)
  rw [w_tup]
  refine ite2 (fun c1 => ?_) (fun c1 => ?_)
  · cases hT with
    | @tup _ l ys ts h1 h2 h3 h4 =>
      walk_at "rd"
      refine ⟨a, _, _, _, rfl, rfl, hG.tupS h1, rfl, ?_⟩
      refine ⟨l, rfl, ⟨_, hG.seq h2⟩, fun D hD => ?_⟩
      have h6 : ts.length ≤ 12 := hW.few
      have hdp2 : 1 + T.deeps ts ≤ n + 1 := hdp
      refine lc_list (K := K) (a := l) (xs := ys) (fun i X => ∃ (us : List V) (R : Addr → Prop), Same H (off D X) ∧ X D = some (.lst us) ∧ Al (fun u k => Tm K (nw H (off D X)) u k) us (ts.take i) ∧ Lists (nw H (off D X)) R ∧ (∀ u ∈ us, Cl K (nw H (off D X)) R (3 * T.deeps ts) u))
        ⟨[], fun _ => False, (same_new hD _).off hD, upd_same, Al.nil, (fun b z => z.elim), fun u hu => by cases hu⟩ (fun i X hi ⟨us, R, g1, _⟩ => (hG.trans (g1.trans off_same)).seq h2) ?_ ?_
      · rintro i x X hx ⟨us, R, g1, g2, g3, g4, g5⟩
        have hi := (List.getElem?_eq_some_iff.mp hx).1
        have ht : ts[i]? = some (ts[i]'(by omega)) := List.getElem?_eq_getElem (by omega)
        have hm : ts[i]'(by omega) ∈ ts := List.getElem_mem _
        have htm := h4 i x _ hx ht
        have hwt := hW.kid hm
        have hdk := deep_kid hm
        generalize ts[i]'(by omega) = k at *
        have gX := g1.trans off_same
        walk_at "rd"
        refine ⟨x, k, G0, rfl, hG.trans gX, htm, hwt, by omega, fun u X' R2 S t2 l2 c2 => ?_⟩
        have n1 := (nw_offs (H := H) (D := D) S).trans (nw_up (o := .lst (us ++ [u])))
        have n2 := (nw_in2 gX g2 (X' := X')).trans (nw_up (o := .lst (us ++ [u])))
        have hl : us.length ≤ 12 := by have z := g3.1; rw [List.length_take] at z; omega
        refine ⟨us, S _ _ g2, small1000 (by omega), us ++ [u], fun b => R b ∨ R2 b, (g1.trans (off_same.trans S)).wr hD |>.off hD, upd_same, ?_, ?_, ?_⟩
        · rw [List.take_add_one, ht]
          exact Al.snoc ⟨g3.1, fun i a b c d => Tm.same n1 (g3.2 i a b c d)⟩ (Tm.same n2 t2)
        · rintro b (r | r)
          · exact (g4.same n1) b r
          · exact (l2.same n2) b r
        · intro z hz
          rcases List.mem_append.mp hz with hz | hz
          · exact (g5 z hz).up (fun b r => .inl r) n1 (Nat.le_refl _)
          · rw [List.mem_singleton.mp hz]
            exact c2.up (fun b r => .inr r) n2 (by omega)
      · rintro X ⟨us, R, g1, g2, g3, g4, g5⟩
        rw [h3, List.take_length] at g3
        walk_at "rd"
        intro p hp
        have gX := g1.trans off_same
        have hpH := gX.fr hp
        have hpD : D ≠ p := ne_of_none g2 hp
        have n1 : Same (nw H (off D X)) (nw H (upd X p (.tup [V.str "tuple", V.ref D]))) := nw_off_sub.trans (nw_same (same_new hp _))
        have eD : nw H (upd X p (.tup [V.str "tuple", V.ref D])) D = some (.lst us) := by rw [nw_of hD, upd_ne hpD]; exact g2
        have eP : SqT K (nw H (upd X p (.tup [V.str "tuple", V.ref D]))) p [V.str "tuple", V.ref D] := SqT.of (nw_at hpH)
        refine q (.ref p) _ (fun b => R b ∨ b = D) (gX.trans (same_new hp _)) (.tup eP (SqL.of eD) g3.1 fun i a b c d => Tm.same n1 (g3.2 i a b c d)) ?_ ?_
        · rintro b (r | rfl)
          · exact (g4.same n1) b r
          · exact ⟨_, eD⟩
        · show Cl K _ _ (3 * (1 + T.deeps ts)) _
          rw [show 3 * (1 + T.deeps ts) = 3 * T.deeps ts + 1 + 1 + 1 by omega]
          refine .tup eP fun x hx => ?_
          simp only [List.mem_cons, List.not_mem_nil, or_false] at hx
          rcases hx with rfl | rfl
          · exact .str
          · exact .lst (.inr rfl) eD fun x hx => (g5 x hx).up (fun b r => .inl r) n1 (by omega)
    | _ => exact absurd c1 Bool.false_ne_true
  walk_at "rd"
  refine ⟨a, _, _, _, rfl, rfl, hx, at0, ?_⟩
  walk_at "rd"
  show (if decide (V.str t.hd.word = V.str "record") = true then _ else _)
  rw [w_record]
  refine ite2 (fun c2 => ?_) (fun c2 => ?_)
  · cases hT with
    | @record _ l bs us ls ts h1 h2 h3 h4 h5 h6 h7 =>
      walk_at "rd"
      refine ⟨a, _, _, _, rfl, rfl, hG.tupS h1, rfl, ?_⟩
      refine ⟨l, rfl, ⟨_, hG.seq h2⟩, fun D hD => ?_⟩
      have h12 : ts.length ≤ 12 := hW.few
      have hdp2 : 1 + T.deeps ts ≤ n + 1 := hdp
      refine lc_list (K := K) (a := l) (xs := bs.map V.ref) (fun i X => ∃ (cs : List Addr) (vs : List V) (R : Addr → Prop), Same H (off D X) ∧ X D = some (.lst (cs.map V.ref)) ∧ cs.length = i ∧ Al (fun u k => Tm K (nw H (off D X)) u k) vs (ts.take i) ∧
          (∀ (j : Nat) (c : Addr) (n : Str) (u : V), cs[j]? = some c → ls[j]? = some n → vs[j]? = some u → SqT K (nw H (off D X)) c [.str n, u]) ∧ Lists (nw H (off D X)) R ∧ (∀ u ∈ vs, Cl K (nw H (off D X)) R (3 * T.deeps ts) u))
        ⟨[], [], fun _ => False, (same_new hD _).off hD, upd_same, rfl, Al.nil, (fun j c n u z => by simp at z), (fun b z => z.elim), fun u hu => by cases hu⟩ (fun i X hi ⟨cs, vs, R, g1, _⟩ => (hG.trans (g1.trans off_same)).seq h2) ?_ ?_
      · rintro i x X hx ⟨cs, vs, R, g1, g2, gl, g3, g6, g4, g5⟩
        obtain ⟨b, hb1, hb2, rfl⟩ := get_map hx
        have hi := (List.getElem?_eq_some_iff.mp hb2).1
        have hu : us[i]? = some (us[i]'(by omega)) := List.getElem?_eq_getElem (by omega)
        have hn : ls[i]? = some (ls[i]'(by omega)) := List.getElem?_eq_getElem (by omega)
        have ht : ts[i]? = some (ts[i]'(by omega)) := List.getElem?_eq_getElem (by omega)
        have hm : ts[i]'(by omega) ∈ ts := List.getElem_mem _
        have htm := h7 i _ _ hu ht
        have hwt := hW.kid hm
        have hdk := deep_kid hm
        have hbt := h6 i b _ _ hb2 hn hu
        generalize ts[i]'(by omega) = k at *
        generalize us[i]'(by omega) = y at *
        generalize ls[i]'(by omega) = nm at *
        have gX := g1.trans off_same
        refine ⟨b, _, rfl, (hG.trans gX).tupS hbt, rfl, ?_⟩
        refine ⟨_, _, rfl, ⟨_, _, rfl, rfl, ?_⟩⟩
        refine ⟨rfl, ?_⟩
        walk_at "rd"
        refine ⟨y, k, G0, rfl, hG.trans gX, htm, hwt, by omega, fun u X' R2 S t2 l2 c2 => ?_⟩
        walk_at "rd"
        intro p hp
        have S2 := S.trans (same_new hp (.tup [V.str nm, u]))
        have hpH := (gX.trans S).fr hp
        have hpD : p ≠ D := (ne_of_none (S _ _ g2) hp).symm
        have n1 := (nw_offs (H := H) (D := D) S2).trans (nw_up (o := .lst (cs.map V.ref ++ [V.ref p])))
        have n2 := (nw_in2 gX g2 (X' := X')).trans ((nw_offs (H := H) (D := D) (same_new hp (.tup [V.str nm, u]))).trans (nw_up (o := .lst (cs.map V.ref ++ [V.ref p]))))
        have n3 : nw H (off D (upd (upd X' p (.tup [V.str nm, u])) D (.lst (cs.map V.ref ++ [V.ref p])))) p = some (.tup [V.str nm, u]) := by rw [nw_of hpH, off_ne hpD, upd_ne hpD, upd_same]
        have hvl : vs.length = i := by have z := g3.1; rw [List.length_take] at z; omega
        refine ⟨cs.map V.ref, S2 _ _ g2, small1000 (by rw [List.length_map]; omega), cs ++ [p], vs ++ [u], fun b => R b ∨ R2 b, (g1.trans (off_same.trans S2)).wr hD |>.off hD, by rw [List.map_append]; exact upd_same, by rw [List.length_append, gl]; rfl, ?_, ?_, ?_, ?_⟩
        · rw [List.take_add_one, ht]
          exact Al.snoc ⟨g3.1, fun i a b c d => Tm.same n1 (g3.2 i a b c d)⟩ (Tm.same n2 t2)
        · intro j c n' u' e1 e2 e3
          by_cases hj : j < i
          · rw [List.getElem?_append_left (by omega)] at e1
            rw [List.getElem?_append_left (by omega)] at e3
            exact n1.tupS (g6 j c n' u' e1 e2 e3)
          · have z := (List.getElem?_eq_some_iff.mp e1).1
            rw [List.length_append, gl] at z
            simp only [List.length_cons, List.length_nil] at z
            have ej : j = i := by omega
            subst ej
            rw [List.getElem?_append_right (by omega), gl, Nat.sub_self] at e1
            rw [List.getElem?_append_right (by omega), hvl, Nat.sub_self] at e3
            rw [hn] at e2
            cases e1
            cases e2
            cases e3
            exact SqT.of n3
        · rintro b (r | r)
          · exact (g4.same n1) b r
          · exact (l2.same n2) b r
        · intro z hz
          rcases List.mem_append.mp hz with hz | hz
          · exact (g5 z hz).up (fun b r => .inl r) n1 (Nat.le_refl _)
          · rw [List.mem_singleton.mp hz]
            exact c2.up (fun b r => .inr r) n2 (by omega)
      · rintro X ⟨cs, vs, R, g1, g2, gl, g3, g6, g4, g5⟩
        rw [List.length_map] at gl g3
        rw [h3, List.take_length] at g3
        walk_at "rd"
        intro p hp
        have gX := g1.trans off_same
        have hpH := gX.fr hp
        have hpD : D ≠ p := ne_of_none g2 hp
        have n1 : Same (nw H (off D X)) (nw H (upd X p (.tup [V.str "record", V.ref D]))) := nw_off_sub.trans (nw_same (same_new hp _))
        have eD : nw H (upd X p (.tup [V.str "record", V.ref D])) D = some (.lst (cs.map V.ref)) := by rw [nw_of hD, upd_ne hpD]; exact g2
        have eP : SqT K (nw H (upd X p (.tup [V.str "record", V.ref D]))) p [V.str "record", V.ref D] := SqT.of (nw_at hpH)
        have hvl : vs.length = ts.length := g3.1
        refine q (.ref p) _ (fun b => R b ∨ b = D) (gX.trans (same_new hp _)) (.record (bs := cs) (us := vs) eP (SqL.of eD) (by omega) h4 g3.1 (fun j c n u e1 e2 e3 => n1.tupS (g6 j c n u e1 e2 e3)) fun i a b c d => Tm.same n1 (g3.2 i a b c d)) ?_ ?_
        · rintro b (r | rfl)
          · exact (g4.same n1) b r
          · exact ⟨_, eD⟩
        · show Cl K _ _ (3 * (1 + T.deeps ts)) _
          rw [show 3 * (1 + T.deeps ts) = 3 * T.deeps ts + 1 + 1 + 1 by omega]
          refine .tup eP fun x hx => ?_
          simp only [List.mem_cons, List.not_mem_nil, or_false] at hx
          rcases hx with rfl | rfl
          · exact .str
          · refine .lst (.inr rfl) eD fun x hx => ?_
            obtain ⟨c, hc, rfl⟩ := List.mem_map.mp hx
            obtain ⟨j, hj⟩ := List.mem_iff_getElem?.mp hc
            have hjl := (List.getElem?_eq_some_iff.mp hj).1
            have e2 : ls[j]? = some (ls[j]'(by omega)) := List.getElem?_eq_getElem (by omega)
            have e3 : vs[j]? = some (vs[j]'(by omega)) := List.getElem?_eq_getElem (by omega)
            refine .tup (n1.tupS (g6 j c _ _ hj e2 e3)) fun x hx => ?_
            simp only [List.mem_cons, List.not_mem_nil, or_false] at hx
            rcases hx with rfl | rfl
            · exact .str
            · exact (g5 _ (List.getElem_mem _)).up (fun b r => .inl r) n1 (by omega)
    | _ => exact absurd c2 Bool.false_ne_true
  walk_at "rd"
  obtain ⟨sh, ys, y1, y2, y3, y4, y5⟩ := hT.shape (by simpa using c1) (by simpa using c2)
  have yl := y2.1
  refine ⟨⟨_, hG.tupS y1⟩, fun D hD => ?_⟩
  have hdp2 : t.deep = 1 + T.deeps t.kids := by cases t; rfl
  refine lc_tup (K := K) (a := a) (xs := ys) (fun i X => ∃ (zs : List V) (R : Addr → Prop), Same H (off D X) ∧ X D = some (.lst zs) ∧ Fit K (nw H (off D X)) zs (sh.take i) ∧ Lists (nw H (off D X)) R ∧ (∀ u ∈ zs, Cl K (nw H (off D X)) R (3 * T.deeps t.kids) u))
    ⟨[], fun _ => False, (same_new hD _).off hD, upd_same, Al.nil, (fun b z => z.elim), fun u hu => by cases hu⟩ (fun i X hi ⟨us, R, g1, _⟩ => (hG.trans (g1.trans off_same)).tupS y1) ?_ ?_
  · rintro i x X hx ⟨zs, R, g1, g2, g3, g4, g5⟩
    have hi := (List.getElem?_eq_some_iff.mp hx).1
    have hs : sh[i]? = some (sh[i]'(by omega)) := List.getElem?_eq_getElem (by omega)
    have hfit := y2.2 i x _ hx hs
    have hk := y4 _ (List.getElem_mem (by omega : i < sh.length))
    have gX := g1.trans off_same
    have hl : zs.length ≤ 4 := by have z := g3.1; rw [List.length_take] at z; omega
    generalize sh[i]'(by omega) = s at *
    walk_at "rd"
    cases s with
    | inl c =>
      have e : x = c := hfit
      subst e
      have hk' : isSc x = true := hk
      have ty : ∃ tn, TyX K X x (.type tn) ∧ PySem.W.kitOne K (.type tn) (.type "tuple") = some false := by
        cases x with
        | str z => exact ⟨_, .base (.str z), kit_ty (by decide +kernel)⟩
        | int z => exact ⟨_, .base (.int z), kit_ty (by decide +kernel)⟩
        | bl z => exact ⟨_, .base (.bl z), kit_ty (by decide +kernel)⟩
        | _ => cases hk'
      obtain ⟨tn, ty1, ty2⟩ := ty
      refine ⟨_, .ty "tuple", _, _, false, rfl, .ty "tuple", ty1, ty2, _, rfl, ?_⟩
      refine ifF rfl ?_
      walk_at "rd"
      have n1 : Same (nw H (off D X)) (nw H (off D (upd X D (.lst (zs ++ [x]))))) := nw_up
      refine ⟨zs, g2, small1000 (by omega), zs ++ [x], R, (g1.trans off_same).wr hD |>.off hD, upd_same, ?_, g4.same n1, ?_⟩
      · rw [List.take_add_one, hs]
        exact Al.snoc (Fit.same n1 g3) rfl
      · intro z hz
        rcases List.mem_append.mp hz with hz | hz
        · exact (g5 z hz).up (fun b r => r) n1 (Nat.le_refl _)
        · rw [List.mem_singleton.mp hz]
          exact sc_cl hk'
    | inr k =>
      have htm : Tm K G0 x k := hfit
      have hkm : k ∈ t.kids := hk
      have hdk := deep_kid hkm
      have hwt : Wt k := by
        cases t
        exact hW.kid hkm
      obtain ⟨b, xs2, rfl, hb2⟩ := htm.tuple
      refine ⟨_, .ty "tuple", _, _, true, rfl, .ty "tuple", tyT ((hG.trans gX).tupS hb2), kit_ty (by decide +kernel), _, rfl, ?_⟩
      refine ifT rfl ?_
      walk_at "rd"
      refine ⟨.ref b, k, G0, rfl, hG.trans gX, htm, hwt, by omega, fun u X' R2 S t2 l2 c2 => ?_⟩
      have n1 := (nw_offs (H := H) (D := D) S).trans (nw_up (o := .lst (zs ++ [u])))
      have n2 := (nw_in2 gX g2 (X' := X')).trans (nw_up (o := .lst (zs ++ [u])))
      refine ⟨zs, S _ _ g2, small1000 (by omega), zs ++ [u], fun b => R b ∨ R2 b, (g1.trans (off_same.trans S)).wr hD |>.off hD, upd_same, ?_, ?_, ?_⟩
      · rw [List.take_add_one, hs]
        exact Al.snoc (Fit.same n1 g3) (Tm.same n2 t2)
      · rintro b (r | r)
        · exact (g4.same n1) b r
        · exact (l2.same n2) b r
      · intro z hz
        rcases List.mem_append.mp hz with hz | hz
        · exact (g5 z hz).up (fun b r => .inl r) n1 (Nat.le_refl _)
        · rw [List.mem_singleton.mp hz]
          exact c2.up (fun b r => .inr r) n2 (by omega)
  · rintro X ⟨zs, R, g1, g2, g3, g4, g5⟩
    rw [yl, List.take_length] at g3
    walk_at "rd"
    refine ⟨D, zs, rfl, .inl ⟨SqL.of g2, fun p hp => ?_⟩⟩
    have gX := g1.trans off_same
    have hpH := gX.fr hp
    have n1 : Same (nw H (off D X)) (nw H (upd X p (.tup zs))) := nw_off_sub.trans (nw_same (same_new hp _))
    have eP : SqT K (nw H (upd X p (.tup zs))) p zs := SqT.of (nw_at hpH)
    refine q (.ref p) _ R (gX.trans (same_new hp _)) (y5 _ _ _ eP (Fit.same n1 g3)) (g4.same n1) ?_
    rw [hdp2, show 3 * (1 + T.deeps t.kids) = 3 * T.deeps t.kids + 1 + 1 + 1 by omega]
    exact .tup eP fun x hx => (g5 x hx).up (fun b r => r) n1 (by omega)
end
end Vt


set_option Elab.async false
set_option linter.all false
set_option maxRecDepth 100000
set_option maxHeartbeats 4000000

namespace Vt
open PySem PySem.Spec PyProof.Rows L2
/-! ### node_count, depth, term_at -/
def spSize (K : PySem.W.Frag) : Sp := fun vs H Q _ => ∃ (v : V) (t : T) (G0 : Hp), vs = [v] ∧ Asked K G0 H v t ∧ ∀ H', Same H H' → Q (.int (t.size : Nat)) H'
theorem at_cons {t k : T} {j : Nat} {r : List Nat} (h : t.at (j :: r) = some k) : ∃ kj, t.kids[j]? = some kj ∧ kj.at r = some k := by
  cases t with
  | node hd ks =>
    simp only [T.at] at h
    cases e : ks[j]? with
    | none => rw [e] at h; cases h
    | some kj => rw [e] at h; exact ⟨kj, rfl, h⟩
def spNodeAt (K : PySem.W.Frag) : Sp := fun vs H Q _ => ∃ (v : V) (b : Addr) (t k : T) (is : List Nat) (G0 : Hp), vs = [v, .ref b] ∧ Same G0 H ∧ Tm K G0 v t ∧ Wt t ∧ SqT K H b (nums is) ∧ t.at is = some k ∧
  ∀ (u : V) (H' : Hp), Same H H' → Tm K G0 u k → Wt k → k.deep ≤ t.deep → Q u H'
def rLenQ (K : PySem.W.Frag) : List V → Hp → VK → Prop := fun xs H Q => ∃ p ys, xs = [V.ref p] ∧ (SqL K H p ys ∨ SqT K H p ys) ∧ Q (.int ys.length) H
abbrev s_node_count : Stmt := topS 41
abbrev N_node_count : List Str := ["term", "level"]
theorem sc_node_count : FnScope N_node_count ["term"] (defScope s_node_count) := ⟨rfl, rfl, rfl, by decide +kernel, rfl, by decide +kernel, by decide +kernel⟩
abbrev s_depth : Stmt := topS 42
abbrev N_depth : List Str := ["term"]
theorem sc_depth : FnScope N_depth ["term"] (defScope s_depth) := ⟨rfl, rfl, rfl, by decide +kernel, rfl, by decide +kernel, by decide +kernel⟩
abbrev s_node_at : Stmt := topS 45
abbrev N_node_at : List Str := ["term", "path", "node", "step", "inner"]
theorem sc_node_at : FnScope N_node_at ["term", "path"] (defScope s_node_at) := ⟨rfl, rfl, rfl, by decide +kernel, rfl, by decide +kernel, by decide +kernel⟩
abbrev s_term_at : Stmt := topS 46
abbrev N_term_at : List Str := ["term", "path"]
theorem sc_term_at : FnScope N_term_at ["term", "path"] (defScope s_term_at) := ⟨rfl, rfl, rfl, by decide +kernel, rfl, by decide +kernel, by decide +kernel⟩
section
variable {P : Program} {w : World} {K : PySem.W.Frag} {mg : Str → Option Value} {base : Heap}
theorem ok_depth (S : Stands K mg "depth" s_depth ["term"]) (Z : Blt mg) (H_levels_of : DefOk P w K mg base CX0 7 "levels_of" ["term"] (spLevels K)) : DefOkF P w K mg base CX0 8 "depth" s_depth ["term"] (spDepth K) := by
  have z_len := Z.len
  obtain ⟨f, fd, F, hm, hb⟩ := S
  obtain ⟨f_levels_of, fd_levels_of, G_levels_of, m_levels_of, k_levels_of, b_levels_of⟩ := H_levels_of
  refine ⟨f, fd, F, ?_, hm, F.kp, hb⟩
  have nd := sc_depth.nd
  refine F.ok sc_depth (fun vs H Q E h => ?_) (fun cdv A outer s0 H vs Q E hr h => ?_)
  · obtain ⟨v, t, G0, rfl, _⟩ := h
    rfl
  obtain ⟨v, t, G0, rfl, ⟨hG, hT, hW, hsz, hdp⟩, q⟩ := h
  refine ⟨_, (pss_one (ps_ret (pe_callB call_len_seq (by rfl) z_len (by decide +kernel) (pa_cons (pe_call G_levels_of (hr.mono (by decide)) rfl m_levels_of k_levels_of b_levels_of .nil pass0 (pa_cons (pv 0) pa_nil)) pa_nil)))), ?_⟩
  walk_at "rd"
  refine ⟨v, t, G0, rfl, hG, hT, hW, hsz, hdp, fun r H1 as ns S1 hr hl e1 e2 al => ?_⟩
  walk_at "rd"
  refine ⟨r, _, rfl, .inl (SqL.of hl), ?_⟩
  rw [List.length_map, e1]
  exact q H1 S1
theorem ok_node_count (S : Stands K mg "node_count" s_node_count ["term"]) (Z : Blt mg) (zs : mg "sum" = none) (H_levels_of : DefOk P w K mg base CX0 7 "levels_of" ["term"] (spLevels K)) : DefOkF P w K mg base CX0 8 "node_count" s_node_count ["term"] (spCount K) := by
  have z_len := Z.len
  have z_sum := zs
  obtain ⟨f, fd, F, hm, hb⟩ := S
  obtain ⟨f_levels_of, fd_levels_of, G_levels_of, m_levels_of, k_levels_of, b_levels_of⟩ := H_levels_of
  refine ⟨f, fd, F, ?_, hm, F.kp, hb⟩
  have nd := sc_node_count.nd
  refine F.ok sc_node_count (fun vs H Q E h => ?_) (fun cdv A outer s0 H vs Q E hr h => ?_)
  · obtain ⟨v, t, G0, rfl, _⟩ := h
    rfl
  obtain ⟨v, t, G0, rfl, ⟨hG, hT, hW, hsz, hdp⟩, q⟩ := h
  refine ⟨_, (pss_one (ps_ret (pe_callB (cr_sum rfl) (by rfl) z_sum (by decide +kernel) (pa_cons (pe_lc (own := [("level", 1)]) (g := gName 1) (tt := tYes) rfl nd (pi_list (pe_call G_levels_of (hr.mono (by decide)) rfl m_levels_of k_levels_of b_levels_of .nil pass0 (pa_cons (pv 0) pa_nil))) (blkOk_by (N := N_node_count) (sc := defScope s_node_count) (by decide +kernel)) (fun _ _ _ _ _ => (pg_name (i := 1) nd rfl (Or.inl rfl))) (fun _ _ _ _ _ => pts_nil) (fun _ _ _ _ _ => (pe_callB (r := rLenQ K) call_len_seq (by rfl) z_len (by decide +kernel) (pa_cons (pv 1) pa_nil)))) pa_nil)))), ?_⟩
  walk_at "rd"
  refine ⟨v, t, G0, rfl, hG, hT, hW, hsz, hdp, fun r H1 as ns S1 hr hl e1 e2 al => ?_⟩
  have hns := al.1
  refine ⟨r, rfl, ⟨_, SqL.of hl⟩, fun D hD => ?_⟩
  refine lc_list (K := K) (a := r) (xs := as.map V.ref) (fun i X => Same H1 (off D X) ∧ X D = some (.lst (((ns.take i).map fun n : Nat => (n : Int)).map V.int)))
    ⟨(same_new hD _).off hD, upd_same⟩ (fun i X hi ⟨g1, _⟩ => SqL.of (off_same _ _ (g1 _ _ hl))) ?_ ?_
  · rintro i x X hx ⟨g1, g2⟩
    obtain ⟨b, hb1, hb2, rfl⟩ := get_map hx
    have hi := (List.getElem?_eq_some_iff.mp hb2).1
    have hn : ns[i]? = some (ns[i]'(by omega)) := List.getElem?_eq_getElem (by omega)
    obtain ⟨us, hu, hul⟩ := al.2 i b _ hb2 hn
    generalize ns[i]'(by omega) = m at *
    have gX := g1.trans off_same
    walk_at "rd"
    refine ⟨b, us, rfl, hu.same gX, ?_⟩
    refine ⟨_, g2, small1000 (by simp only [List.length_map, List.length_take]; omega), (off_same.trans (Same.refl X)).wr off_at |>.off off_at |> g1.trans, ?_⟩
    rw [upd_same, List.take_add_one, hn, hul]
    simp
  · rintro X ⟨g1, g2⟩
    rw [List.length_map, hns, List.take_length] at g2
    walk_at "rd"
    refine ⟨D, _, rfl, SqL.of g2, ?_⟩
    have e : (ns.map fun n : Nat => (n : Int)).sum = ((t.size : Nat) : Int) := by
      rw [← e2]
      have z : ∀ l : List Nat, (l.map fun n : Nat => (n : Int)).sum = ((l.sum : Nat) : Int) := fun l => by
        induction l with
        | nil => rfl
        | cons x r ih =>
          rw [List.map_cons, List.sum_cons, List.sum_cons, ih]
          omega
      exact z ns
    rw [e]
    exact q X (S1.trans (g1.trans off_same))
theorem ok_node_at (S : Stands K mg "node_at" s_node_at ["term", "path"]) (Z : Blt mg) (H_inner_terms : DefOk P w K mg base CX0 5 "inner_terms" ["value"] (spInner K)) (H_is_integer_within : DefOk P w K mg base CX0 2 "is_integer_within" ["value", "least", "greatest"] spWithin) : DefOk P w K mg base CX0 6 "node_at" ["term", "path"] (spNodeAt K) := by
  have z_isinstance := Z.isinstance
  have z_tuple := Z.tuple
  have z_len := Z.len
  obtain ⟨f, fd, F, hm, hb⟩ := S
  obtain ⟨f_inner_terms, fd_inner_terms, G_inner_terms, m_inner_terms, k_inner_terms, b_inner_terms⟩ := H_inner_terms
  obtain ⟨f_is_integer_within, fd_is_integer_within, G_is_integer_within, m_is_integer_within, k_is_integer_within, b_is_integer_within⟩ := H_is_integer_within
  refine ⟨f, fd, ?_, hm, F.kp, hb⟩
  have nd := sc_node_at.nd
  refine F.ok sc_node_at (fun vs H Q E h => ?_) (fun cdv A outer s0 H vs Q E hr h => ?_)
  · obtain ⟨v, b, t, k, is, G0, rfl, _⟩ := h
    rfl
  obtain ⟨v, b, t, k, is, G0, rfl, hG, hT, hW, hb2, hat, q⟩ := h
  refine ⟨_, (pss_cons (ps_if (pt_not (pt_val (pe_callB call_isi (by rfl) z_isinstance (by decide +kernel) (pa_cons (pv 1) (pa_cons (pe_bltn (v := .ty "tuple") (by rfl) z_tuple (by decide +kernel) rfl) pa_nil))))) (pss_one (ps_never)) pss_nil)
      (pss_cons (ps_set (i := 2) nd rfl (Or.inl rfl) (pv 0))
      (pss_cons (ps_for PassesOwn.never rfl (pi_tup (pv 1)) (pg_name (i := 3) nd rfl (Or.inl rfl)) (pss_cons (ps_set (i := 4) nd rfl (Or.inl rfl) (pe_call G_inner_terms (hr.mono (by decide)) rfl m_inner_terms k_inner_terms b_inner_terms .nil pass0 (pa_cons (pv 2) pa_nil)))
      (pss_cons (ps_if (pt_not (pt_val (pe_call G_is_integer_within (hr.mono (by decide)) rfl m_is_integer_within k_is_integer_within b_is_integer_within .nil pass0 (pa_cons (pv 3) (pa_cons pe_int (pa_cons (pe_op op_sub (pe_callB call_len_seq (by rfl) z_len (by decide +kernel) (pa_cons (pv 4) pa_nil)) pe_int) pa_nil)))))) (pss_one (ps_never)) pss_nil)
      (pss_one (ps_set (i := 2) nd rfl (Or.inl rfl) (pe_ix (IxR.or ix_list ix_tup) (pv 4) (pv 3) (fun _ _ => rfl)))))))
      (pss_one (ps_ret (pv 2)))))), ?_⟩
  walk_at "rd"
  refine ⟨_, .ty "tuple", _, _, true, rfl, .ty "tuple", tyT hb2, kit_ty (by decide +kernel), _, rfl, ?_⟩
  refine ifF rfl ?_
  walk_at "rd"
  refine ⟨⟨_, hb2⟩, ?_⟩
  refine for_tup (K := K) (a := b) (xs := nums is) (fun i σ X => ∃ (u : V) (ki : T) (s3 s4 : Option V), σ = [some v, some (.ref b), some u, s3, s4] ∧ Same H X ∧ Tm K G0 u ki ∧ Wt ki ∧ ki.deep ≤ t.deep ∧ ki.at (is.drop i) = some k)
    ⟨v, t, none, none, rfl, Same.refl H, hT, hW, Nat.le_refl _, hat⟩ (fun i σ X hi ⟨_, _, _, _, _, g, _⟩ => g.tupS hb2) ?_ ?_
  · rintro i x σ X hx ⟨u, ki, s3, s4, rfl, g, tm, wt, dk, ha⟩
    have hi := (List.getElem?_eq_some_iff.mp hx).1
    have hil : i < is.length := by simpa [nums] using hi
    have hd : is.drop i = is[i] :: is.drop (i + 1) := List.drop_eq_getElem_cons hil
    have ex : x = .int (is[i] : Nat) := by
      have z : (nums is)[i]? = some (.int ((is[i] : Nat) : Int)) := by
        unfold nums
        rw [List.getElem?_map, List.getElem?_eq_getElem hil]
        rfl
      rw [hx] at z
      exact Option.some.inj z
    subst ex
    rw [hd] at ha
    obtain ⟨kj, e1, e2⟩ := at_cons ha
    generalize is[i] = j at *
    have hjl := (List.getElem?_eq_some_iff.mp e1).1
    refine ⟨_, rfl, ?_⟩
    walk_at "rd"
    refine ⟨u, ki, G0, rfl, hG.trans g, tm, wt, fun r X2 us S2 hr hal => ?_⟩
    have hsq := hr.sq (hG.trans (g.trans S2))
    have hul := hal.1
    have huj : us[j]? = some (us[j]'(by omega)) := List.getElem?_eq_getElem (by omega)
    have htj := hal.2 j _ _ huj e1
    walk_at "rd"
    refine ⟨r, us, rfl, hsq, ?_⟩
    walk_at "rd"
    refine ⟨(j : Nat), 0, ((us.length : Nat) : Int) - 1, rfl, by omega, by omega, fun X3 S3 => ⟨_, rfl, ifF rfl ?_⟩⟩
    walk_at "rd"
    refine ix_sq (hsq.same S3) (atI_nat huj) ?_
    have hm := List.mem_of_getElem? e1
    have dj : kj.deep ≤ t.deep := by
      have z := deep_kid hm
      cases ki
      simp only [T.deep] at dk
      simp only [T.kids] at z
      omega
    have wj : Wt kj := by
      cases ki
      exact wt.kid hm
    exact ⟨_, kj, _, _, rfl, g.trans (S2.trans S3), htj, wj, dj, e2⟩
  · rintro σ X ⟨u, ki, s3, s4, rfl, g, tm, wt, dk, ha⟩
    have e : is.drop (nums is).length = [] := List.drop_eq_nil_of_le (by simp [nums])
    rw [e] at ha
    cases ki
    cases ha
    walk_at "rd"
    exact q u X g tm wt dk
theorem ok_term_at (S : Stands K mg "term_at" s_term_at ["term", "path"]) (H_check_term : DefOk P w K mg base CX0 8 "check_term" ["value"] (spChecked K)) (H_node_at : DefOk P w K mg base CX0 6 "node_at" ["term", "path"] (spNodeAt K)) (H_copied : DefOk P w K mg base CX0 102 "copied" ["term"] (spCopied K 100)) : DefOkF P w K mg base CX0 103 "term_at" s_term_at ["term", "path"] (spAt K) := by
  obtain ⟨f, fd, F, hm, hb⟩ := S
  obtain ⟨f_check_term, fd_check_term, G_check_term, m_check_term, k_check_term, b_check_term⟩ := H_check_term
  obtain ⟨f_node_at, fd_node_at, G_node_at, m_node_at, k_node_at, b_node_at⟩ := H_node_at
  obtain ⟨f_copied, fd_copied, G_copied, m_copied, k_copied, b_copied⟩ := H_copied
  refine ⟨f, fd, F, ?_, hm, F.kp, hb⟩
  have nd := sc_term_at.nd
  refine F.ok sc_term_at (fun vs H Q E h => ?_) (fun cdv A outer s0 H vs Q E hr h => ?_)
  · obtain ⟨v, b, t, k, is, G0, rfl, _⟩ := h
    rfl
  obtain ⟨v, b, t, k, is, G0, rfl, ⟨hG, hT, hW, hsz, hdp⟩, hb2, hat, q⟩ := h
  refine ⟨_, (pss_cons (ps_expr (pe_call G_check_term (hr.mono (by decide)) rfl m_check_term k_check_term b_check_term .nil pass0 (pa_cons (pv 0) pa_nil)))
      (pss_one (ps_ret (pe_call G_copied (hr.mono (by decide)) rfl m_copied k_copied b_copied .nil pass0 (pa_cons (pe_call G_node_at (hr.mono (by decide)) rfl m_node_at k_node_at b_node_at .nil pass0 (pa_cons (pv 0) (pa_cons (pv 1) pa_nil))) pa_nil))))), ?_⟩
  walk_at "rd"
  refine ⟨v, t, G0, rfl, hG, hT, hW, hsz, hdp, fun H1 S1 => ?_⟩
  walk_at "rd"
  refine ⟨v, b, t, k, is, G0, rfl, hG.trans S1, hT, hW, S1.tupS hb2, hat, fun u H2 S2 tm wt dk => ?_⟩
  walk_at "rd"
  refine ⟨u, k, G0, rfl, (hG.trans S1).trans S2, tm, wt, by omega, fun u2 H3 R S3 t3 l3 c3 => ?_⟩
  exact q u2 H3 R (S1.trans (S2.trans S3)) (Tm.same nw_sub t3) (fun c r => by
    obtain ⟨xs, e⟩ := l3 c r
    exact (S1.trans S2).fr (nw_get e).1) (l3.same nw_sub) (c3.up (fun b r => r) nw_sub (Nat.le_refl _))
end
end Vt


set_option Elab.async false
set_option linter.all false
set_option maxRecDepth 100000
set_option maxHeartbeats 4000000
namespace Vt
open PySem PySem.Spec PyProof.Rows L2
/-! ### the program's own defs as they stand behind the top -/
structure CoreDefs (K : PySem.W.Frag) (mg : Str → Option Value) : Prop where
  is_integer_ : Stands K mg "is_integer" s_is_integer ["value"]
  is_integer_within_ : Stands K mg "is_integer_within" s_is_integer_within ["value", "least", "greatest"]
  is_name_ : Stands K mg "is_name" s_is_name ["value"]
  are_names_ : Stands K mg "are_names" s_are_names ["values"]
  are_ascending_ : Stands K mg "are_ascending" s_are_ascending ["names"]
  are_fields_ : Stands K mg "are_fields" s_are_fields ["value", "most"]
  are_items_ : Stands K mg "are_items" s_are_items ["value"]
  begins_as_function_ : Stands K mg "begins_as_function" s_begins_as_function ["value"]
  inner_of_var_ : Stands K mg "inner_of_var" s_inner_of_var ["node"]
  inner_of_int_ : Stands K mg "inner_of_int" s_inner_of_int ["node"]
  inner_of_bool_ : Stands K mg "inner_of_bool" s_inner_of_bool ["node"]
  inner_of_fun_ : Stands K mg "inner_of_fun" s_inner_of_fun ["node"]
  inner_of_app_ : Stands K mg "inner_of_app" s_inner_of_app ["node"]
  inner_of_let_ : Stands K mg "inner_of_let" s_inner_of_let ["node"]
  inner_of_rec_ : Stands K mg "inner_of_rec" s_inner_of_rec ["node"]
  inner_of_if_ : Stands K mg "inner_of_if" s_inner_of_if ["node"]
  inner_of_tuple_ : Stands K mg "inner_of_tuple" s_inner_of_tuple ["node"]
  inner_of_part_ : Stands K mg "inner_of_part" s_inner_of_part ["node"]
  inner_of_record_ : Stands K mg "inner_of_record" s_inner_of_record ["node"]
  inner_of_field_ : Stands K mg "inner_of_field" s_inner_of_field ["node"]
  inner_of_with_ : Stands K mg "inner_of_with" s_inner_of_with ["node"]
  inner_terms_ : Stands K mg "inner_terms" s_inner_terms ["value"]
  levels_if_term_ : Stands K mg "levels_if_term" s_levels_if_term ["value"]
  nodes_with_paths_ : Stands K mg "nodes_with_paths" s_nodes_with_paths ["value"]
  levels_of_ : Stands K mg "levels_of" s_levels_of ["term"]
  check_term_ : Stands K mg "check_term" s_check_term ["value"]
  paths_ : Stands K mg "paths" s_paths ["term"]
/-- the table of the kinds as it stands behind the top -/
structure Tab (w : World) (K : PySem.W.Frag) (mg : Str → Option Value) (D : Addr) (es : Array DictEntry) (n : Nat) : Prop where
  at_ : mg "INNER_OF" = some (.ref D)
  kd : KDict K w D es n
  t_var : ∃ f : Addr, PySem.W.nsIn K D "var" = some (some (.ref f)) ∧ mg "inner_of_var" = some (.ref f)
  t_int : ∃ f : Addr, PySem.W.nsIn K D "int" = some (some (.ref f)) ∧ mg "inner_of_int" = some (.ref f)
  t_bool : ∃ f : Addr, PySem.W.nsIn K D "bool" = some (some (.ref f)) ∧ mg "inner_of_bool" = some (.ref f)
  t_fun : ∃ f : Addr, PySem.W.nsIn K D "fun" = some (some (.ref f)) ∧ mg "inner_of_fun" = some (.ref f)
  t_app : ∃ f : Addr, PySem.W.nsIn K D "app" = some (some (.ref f)) ∧ mg "inner_of_app" = some (.ref f)
  t_let : ∃ f : Addr, PySem.W.nsIn K D "let" = some (some (.ref f)) ∧ mg "inner_of_let" = some (.ref f)
  t_rec : ∃ f : Addr, PySem.W.nsIn K D "rec" = some (some (.ref f)) ∧ mg "inner_of_rec" = some (.ref f)
  t_if : ∃ f : Addr, PySem.W.nsIn K D "if" = some (some (.ref f)) ∧ mg "inner_of_if" = some (.ref f)
  t_tuple : ∃ f : Addr, PySem.W.nsIn K D "tuple" = some (some (.ref f)) ∧ mg "inner_of_tuple" = some (.ref f)
  t_part : ∃ f : Addr, PySem.W.nsIn K D "part" = some (some (.ref f)) ∧ mg "inner_of_part" = some (.ref f)
  t_record : ∃ f : Addr, PySem.W.nsIn K D "record" = some (some (.ref f)) ∧ mg "inner_of_record" = some (.ref f)
  t_field : ∃ f : Addr, PySem.W.nsIn K D "field" = some (some (.ref f)) ∧ mg "inner_of_field" = some (.ref f)
  t_with : ∃ f : Addr, PySem.W.nsIn K D "with" = some (some (.ref f)) ∧ mg "inner_of_with" = some (.ref f)
section
variable {P : Program} {w : World} {K : PySem.W.Frag} {mg : Str → Option Value} {base : Heap}
theorem held_of {x wd : Str} {D : Addr} (h : DefOk P w K mg base CX0 4 x ["node"] (spIn K wd)) (t : ∃ f : Addr, PySem.W.nsIn K D wd = some (some (.ref f)) ∧ mg x = some (.ref f)) : ∃ f : Addr, PySem.W.nsIn K D wd = some (some (.ref f)) ∧ Held P w K mg base 4 f (spIn K wd) := by
  obtain ⟨f, e, m⟩ := t
  obtain ⟨g, fd, F, m2, k, b⟩ := h
  rw [m] at m2
  cases m2
  exact ⟨f, e, ⟨fd, _, F, k, b⟩⟩
theorem kinds_ok {D : Addr} {es : Array DictEntry} {n : Nat} (S : CoreDefs K mg) (Z : Blt mg) (C : Cst mg) (T : Tab w K mg D es n) : Kinds P w K mg base D es n := by
  have h1 := ok_is_integer (P := P) (w := w) (base := base) S.is_integer_ Z
  have h2 := ok_is_integer_within S.is_integer_within_ Z h1
  have h3 := ok_is_name (P := P) (w := w) (base := base) S.is_name_ Z C
  have h4 := ok_are_ascending (P := P) (w := w) (base := base) S.are_ascending_ Z
  have h5 := ok_are_names (P := P) (w := w) (base := base) S.are_names_ Z C
  have h6 := ok_are_fields S.are_fields_ Z h5 h4
  have h7 := ok_are_items (P := P) (w := w) (base := base) S.are_items_ Z C
  have h8 := ok_begins (P := P) (w := w) (base := base) S.begins_as_function_ Z
  refine ⟨T.at_, T.kd, fun h => ?_⟩
  cases h with
  | var _ => exact held_of (ok_in_var S.inner_of_var_ Z C h3) T.t_var
  | int _ => exact held_of (ok_in_int S.inner_of_int_ Z C h2) T.t_int
  | bool _ => exact held_of (ok_in_bool S.inner_of_bool_ Z C ) T.t_bool
  | fn _ => exact held_of (ok_in_fun S.inner_of_fun_ Z C h3) T.t_fun
  | app => exact held_of (ok_in_app S.inner_of_app_ Z C ) T.t_app
  | lt _ => exact held_of (ok_in_let S.inner_of_let_ Z C h3) T.t_let
  | rc _ => exact held_of (ok_in_rec S.inner_of_rec_ Z C h3 h8) T.t_rec
  | cond => exact held_of (ok_in_if S.inner_of_if_ Z C ) T.t_if
  | tup => exact held_of (ok_in_tuple S.inner_of_tuple_ Z C h7) T.t_tuple
  | part _ _ => exact held_of (ok_in_part S.inner_of_part_ Z C h2) T.t_part
  | record _ => exact held_of (ok_in_record S.inner_of_record_ Z C h6) T.t_record
  | field _ => exact held_of (ok_in_field S.inner_of_field_ Z C h3) T.t_field
  | wth _ => exact held_of (ok_in_with S.inner_of_with_ Z C h3) T.t_with
/-- what the rest rests on -/
structure Core (P : Program) (w : World) (K : PySem.W.Frag) (mg : Str → Option Value) (base : Heap) : Prop where
  within : DefOk P w K mg base CX0 2 "is_integer_within" ["value", "least", "greatest"] spWithin
  inner : DefOk P w K mg base CX0 5 "inner_terms" ["value"] (spInner K)
  levels : DefOk P w K mg base CX0 7 "levels_of" ["term"] (spLevels K)
  check : DefOkF P w K mg base CX0 8 "check_term" s_check_term ["value"] (spChecked K)
  paths : DefOkF P w K mg base CX0 7 "paths" s_paths ["term"] (spPathsOf K)
theorem core_ok {D : Addr} {es : Array DictEntry} {n : Nat} (S : CoreDefs K mg) (Z : Blt mg) (C : Cst mg) (T : Tab w K mg D es n) : Core P w K mg base := by
  have h1 := ok_is_integer (P := P) (w := w) (base := base) S.is_integer_ Z
  have h2 := ok_is_integer_within S.is_integer_within_ Z h1
  have hi := ok_inner_terms S.inner_terms_ Z (kinds_ok (P := P) (base := base) S Z C T)
  have hl := ok_levels_of S.levels_of_ Z (ok_levels_if_term S.levels_if_term_ Z C hi)
  exact ⟨h2, hi, hl, ok_check_term S.check_term_ hl, ok_paths S.paths_ (ok_nodes_with_paths S.nodes_with_paths_ Z C hi)⟩
/-- calls by keywords alone -/
theorem vals_rev {vs : List V} {us : List Value} (h : Vals vs us) : Vals vs.reverse us.reverse := by
  induction h with
  | nil => exact .nil
  | cons r _ ih =>
    rw [List.reverse_cons, List.reverse_cons]
    exact ih.append (.cons r .nil)
theorem kb1 {x p : Str} {st : Stmt} {f : Addr} {fd : FuncData} (F : Fun K x x st f fd) (h : ∀ (kV doc pm : Value) (an : Option Addr) (cdv ct u : Value), bindArgs (PySem.W.fnOf x x (defArgs st) (defBody st) (defScope st) .none kV doc pm an cdv ct) ⟨[], [(p, u)]⟩ = pure [(p, u)]) : KBn K fd [p] 0 [p] (fun _ ws => ws) (fun _ zs => zs) := by
  obtain ⟨oc, od, kV, doc, pm, an, cdv, ct, osl, rfl, lk, hcd⟩ := F.ex
  refine ⟨fun s us ws _ h1 h2 => ?_, fun _ r => r⟩
  obtain rfl := List.eq_nil_of_length_eq_zero h1
  match ws, h2 with
  | [u], _ => exact .of_eq (h kV doc pm an cdv ct u)
theorem kb2 {x p q : Str} {st : Stmt} {f : Addr} {fd : FuncData} (F : Fun K x x st f fd) (h : ∀ (kV doc pm : Value) (an : Option Addr) (cdv ct u v : Value), bindArgs (PySem.W.fnOf x x (defArgs st) (defBody st) (defScope st) .none kV doc pm an cdv ct) ⟨[], [(q, v), (p, u)]⟩ = pure [(p, u), (q, v)]) : KBn K fd [p, q] 0 [q, p] (fun _ ws => ws.reverse) (fun _ zs => zs.reverse) := by
  obtain ⟨oc, od, kV, doc, pm, an, cdv, ct, osl, rfl, lk, hcd⟩ := F.ex
  refine ⟨fun s us ws _ h1 h2 => ?_, fun _ r => vals_rev r⟩
  obtain rfl := List.eq_nil_of_length_eq_zero h1
  match ws, h2 with
  | [v, u], _ => exact .of_eq (h kV doc pm an cdv ct u v)
end
end Vt


set_option Elab.async false
set_option linter.all false
set_option maxRecDepth 100000
set_option maxHeartbeats 4000000

namespace Vt
open PySem PySem.Spec PyProof.Rows L2
theorem ok_void {P : Program} {w : World} {K : PySem.W.Frag} {mg : Str → Option Value} {base : Heap} {k : Nat} {x : Str} {st : Stmt} {ps : List Str} {sp : Sp} {CX : CXT} (S : Stands K mg x st ps) (h : ∀ vs H Q E, ¬ sp vs H Q E) : DefOk P w K mg base CX k x ps sp := by
  obtain ⟨f, fd, F, hm, hb⟩ := S
  exact ⟨f, fd, ⟨fun vs H Q E z => (h _ _ _ _ z).elim, fun A outer s H args us vs Q E _ _ _ _ z => (h _ _ _ _ z).elim⟩, hm, F.kp, hb⟩
theorem DefOk.mono {P : Program} {w : World} {K : PySem.W.Frag} {mg : Str → Option Value} {base : Heap} {CX : CXT} {j k : Nat} {x : Str} {ps : List Str} {sp : Sp} (D : DefOk P w K mg base CX j x ps sp) (h : j ≤ k) : DefOk P w K mg base CX k x ps sp := by
  obtain ⟨f, fd, F, hm, hk, hb⟩ := D
  exact ⟨f, fd, F.mono h, hm, hk, hb⟩
theorem stands {K : PySem.W.Frag} {mg : Str → Option Value} {h : Heap} {x : Str} {st : Stmt} {ps : List Str} {f : Addr} {oc : Value} {od an : Option Addr} {sl : Array (Option Value)} {kV dc pm cd ct : Value} (X : K.In h) (G : h.Ns mainGlobals mg) (a : PySem.W.nsIn K mainGlobals x = some (some (.ref f)))
    (l : K.lookup f = some ⟨oc, od, .func (PySem.W.fnOf x x (defArgs st) (defBody st) (defScope st) .none kV dc pm an cd ct), sl⟩) (c : PySem.W.codeIn K cd x = true) (k : PySem.W.keepIn K (.ref f) = true)
    (b : ∀ (kV doc pm : Value) (an : Option Addr) (cdv ct : Value) (us : List Value), us.length = ps.length → bindArgs (PySem.W.fnOf x x (defArgs st) (defBody st) (defScope st) .none kV doc pm an cdv ct) ⟨us, []⟩ = pure (ps.zip us)) : Stands K mg x st ps :=
  ⟨f, _, fun_mk l c k, PySem.W.mg_of X G a, (fun_mk l c k).binds b⟩
section
variable {P : Program} {w : World} {K : PySem.W.Frag} {mg : Str → Option Value} {base : Heap}
/-- what holds no list and no tuple -/
theorem ok_cleared0 (S : Stands K mg "_law_cleared" s_law_cleared ["thing"]) (Z : Blt mg) (H_law_cleared : DefOk P w K mg base CX0 0 "_law_cleared" ["thing"] (fun _ _ _ _ => False)) : DefOk P w K mg base CX0 1 "_law_cleared" ["thing"] (spCl K 0) := by
  have z_isinstance := Z.isinstance
  have z_tuple := Z.tuple
  have z_list := Z.list
  obtain ⟨f, fd, F, hm, hb⟩ := S
  obtain ⟨f_law_cleared, fd_law_cleared, G_law_cleared, m_law_cleared, k_law_cleared, b_law_cleared⟩ := H_law_cleared
  refine ⟨f, fd, ?_, hm, F.kp, hb⟩
  have nd := sc_law_cleared.nd
  refine F.ok sc_law_cleared (fun vs H Q E h => ?_) (fun cdv A outer s0 H vs Q E hr h => ?_)
  · obtain ⟨v, R, rfl, _⟩ := h
    rfl
  obtain ⟨v, R, rfl, hl, hc, q⟩ := h
  refine ⟨_, (C8.pss_cut (ps_if (pt_val (pe_callB call_isiT (by rfl) z_isinstance (by decide +kernel) (pa_cons (pv 0) (pa_cons (pe_tup (pa_cons (pe_bltn (v := .ty "tuple") (by rfl) z_tuple (by decide +kernel) rfl) (pa_cons (pe_bltn (v := .ty "list") (by rfl) z_list (by decide +kernel) rfl) pa_nil))) pa_nil)))) (pss_one (ps_for PassesOwn.never rfl (pi_or (pi_list (pv 0)) (pi_tup (pv 0))) (pg_name (i := 1) nd rfl (Or.inl rfl)) (pss_one (ps_expr (pe_call G_law_cleared (hr.mono (by omega)) rfl m_law_cleared k_law_cleared b_law_cleared .nil pass0 (pa_cons (pv 1) pa_nil)))))) pss_nil)
      (pss_one (ps_if (pt_val (pe_callB call_isi (by rfl) z_isinstance (by decide +kernel) (pa_cons (pv 0) (pa_cons (pe_bltn (v := .ty "list") (by rfl) z_list (by decide +kernel) rfl) pa_nil)))) (pss_one (ps_expr (pe_bm0 PySem.F.plainAttrs_list PySem.F.slot_list_clear PySem.F.type_list_clear mt_clear (pv 0)))) pss_nil))), ?_⟩
  refine ⟨fun σ' X' => ∃ s1 : Option V, σ' = [some v, s1] ∧ Chg R H X', ?_, ?_⟩
  · walk_at "rd"
    cases hc with
    | str =>
      intro p hp
      refine ⟨_, p, _, _, [.type "tuple", .type "list"], false, rfl, upd_same, .cons (.ty _) (.cons (.ty _) .nil), .base (.str _), any0 (kit_ty (by decide +kernel)) (any0 (kit_ty (by decide +kernel)) rfl), _, rfl, iteF ⟨_, rfl, (Chg.refl R H).same (same_new hp _)⟩⟩
    | int =>
      intro p hp
      refine ⟨_, p, _, _, [.type "tuple", .type "list"], false, rfl, upd_same, .cons (.ty _) (.cons (.ty _) .nil), .base (.int _), any0 (kit_ty (by decide +kernel)) (any0 (kit_ty (by decide +kernel)) rfl), _, rfl, iteF ⟨_, rfl, (Chg.refl R H).same (same_new hp _)⟩⟩
    | bl =>
      intro p hp
      refine ⟨_, p, _, _, [.type "tuple", .type "list"], false, rfl, upd_same, .cons (.ty _) (.cons (.ty _) .nil), .base (.bl _), any0 (kit_ty (by decide +kernel)) (any0 (kit_ty (by decide +kernel)) rfl), _, rfl, iteF ⟨_, rfl, (Chg.refl R H).same (same_new hp _)⟩⟩
  · rintro σ' X' ⟨s1, rfl, ch⟩
    walk_at "rd"
    cases hc with
    | str => exact ⟨_, _, _, _, false, rfl, .ty _, .base (.str _), kit_ty (by decide +kernel), _, rfl, iteF (q _ ch)⟩
    | int => exact ⟨_, _, _, _, false, rfl, .ty _, .base (.int _), kit_ty (by decide +kernel), _, rfl, iteF (q _ ch)⟩
    | bl => exact ⟨_, _, _, _, false, rfl, .ty _, .base (.bl _), kit_ty (by decide +kernel), _, rfl, iteF (q _ ch)⟩
/-- the law's own defs -/
structure LawDefs (K : PySem.W.Frag) (mg : Str → Option Value) : Prop where
  law_next_ : Stands K mg "_law_next" s_law_next ["source", "many"]
  law_one_ : Stands K mg "_law_one" s_law_one ["source", "some"]
  law_source_of_ : Stands K mg "_law_source_of" s_law_source_of ["cell"]
  law_cell_at_ : Stands K mg "_law_cell_at" s_law_cell_at ["script", "index"]
  law_leaf_ : Stands K mg "_law_leaf" s_law_leaf ["source", "names"]
  law_record_ : Stands K mg "_law_record" s_law_record ["source", "names", "deep", "is_plain"]
  law_term_ : Stands K mg "_law_term" s_law_term ["source", "names", "deep"]
  law_below_ : Stands K mg "_law_below" s_law_below ["node"]
  law_wide_ : Stands K mg "_law_wide" s_law_wide ["source", "deep"]
  law_cleared_ : Stands K mg "_law_cleared" s_law_cleared ["thing"]
  law_all_ : Stands K mg "_law_all" s_law_all ["node", "path_here"]
  law_right_ : Stands K mg "_law_right" s_law_right ["term_here"]
  law_ : Stands K mg "law" s_law ["script"]
/-- the program's defs that this law alone speaks of -/
structure MoreDefs (K : PySem.W.Frag) (mg : Str → Option Value) : Prop where
  node_count_ : Stands K mg "node_count" s_node_count ["term"]
  depth_ : Stands K mg "depth" s_depth ["term"]
  copied_ : Stands K mg "copied" s_copied ["term"]
  node_at_ : Stands K mg "node_at" s_node_at ["term", "path"]
  term_at_ : Stands K mg "term_at" s_term_at ["term", "path"]
theorem deep_pos (t : T) : 1 ≤ t.deep := by
  cases t
  simp only [T.deep]
  omega
theorem law_terms (S : LawDefs K mg) (Z : Blt mg) : ∀ n, DefOk P w K mg base CX0 (2 * n + 3) "_law_term" ["source", "names", "deep"] (spTerm K n) := by
  have h1 := ok_next (P := P) (w := w) (base := base) S.law_next_ Z
  have h2 := ok_one (P := P) (w := w) (base := base) S.law_one_ Z h1
  have h3 := ok_leaf (P := P) (w := w) (base := base) S.law_leaf_ Z h1 h2
  intro n
  induction n with
  | zero => exact ok_void S.law_term_ fun vs H Q E ⟨_, _, _, d, _, _, _, _, z, _⟩ => absurd z (Nat.not_lt_zero d)
  | succ n ih => exact ok_term S.law_term_ Z h1 h2 h3 ih (ok_record S.law_record_ Z h1 h2 h3 ih)
theorem law_wides (S : LawDefs K mg) (Z : Blt mg) : ∀ n, DefOk P w K mg base CX0 (n + 3) "_law_wide" ["source", "deep"] (spWide K n) := by
  have h1 := ok_next (P := P) (w := w) (base := base) S.law_next_ Z
  have h2 := ok_one (P := P) (w := w) (base := base) S.law_one_ Z h1
  intro n
  induction n with
  | zero => exact ok_void S.law_wide_ fun vs H Q E ⟨_, d, _, _, z, _⟩ => absurd z (Nat.not_lt_zero d)
  | succ n ih => exact ok_wide S.law_wide_ Z h1 h2 ih
theorem law_clears (S : LawDefs K mg) (Z : Blt mg) : ∀ n, DefOk P w K mg base CX0 (n + 1) "_law_cleared" ["thing"] (spCl K n) := by
  intro n
  induction n with
  | zero => exact ok_cleared0 S.law_cleared_ Z (ok_void S.law_cleared_ fun vs H Q E z => z)
  | succ n ih => exact ok_cleared S.law_cleared_ Z ih
theorem law_alls (S : LawDefs K mg) (Z : Blt mg) : ∀ n, DefOk P w K mg base CX0 (n + 2) "_law_all" ["node", "path_here"] (spAll K n) := by
  intro n
  induction n with
  | zero => exact ok_void S.law_all_ fun vs H Q E ⟨_, t, _, _, _, _, _, _, _, _, z, _⟩ => by have := deep_pos t; omega
  | succ n ih => exact ok_all S.law_all_ Z (ok_below S.law_below_ Z) ih
theorem copies (S : MoreDefs K mg) (Z : Blt mg) : ∀ n, DefOk P w K mg base CX0 (n + 1) "copied" ["term"] (spCopied K n) := by
  intro n
  induction n with
  | zero => exact ok_void S.copied_ fun vs H Q E ⟨_, t, _, _, _, _, _, z, _⟩ => by have := deep_pos t; omega
  | succ n ih => exact ok_copied S.copied_ Z ih
theorem fnok_wide {CX : CXT} {k : Nat} {f : Addr} {fd : FuncData} {ps : List Str} {sp sp' : Sp} (F : FnOk P w K mg base CX k f fd ps sp) (h : ∀ vs H Q E, sp' vs H Q E → sp vs H Q E) : FnOk P w K mg base CX k f fd ps sp' :=
  ⟨fun vs H Q E z => F.len vs H Q E (h _ _ _ _ z), fun A outer s H args us vs Q E r e b v z => F.run A outer s H args us vs Q E r e b v (h _ _ _ _ z)⟩
theorem law_ok {D : Addr} {es : Array DictEntry} {n : Nat} (S : LawDefs K mg) (S1 : CoreDefs K mg) (S2 : MoreDefs K mg) (Z : Blt mg) (z_max : mg "max" = none) (z_sum : mg "sum" = none) (C : Cst mg) (T : Tab w K mg D es n) {f : Addr} {fd : FuncData} (FL : Fun K "law" "law" s_law f fd) : FnG P w K mg base CX0 105 f fd ["script"] (spLaw K) := by
  have R := core_ok (P := P) (w := w) (base := base) S1 Z C T
  obtain ⟨f1, fd1, F1, G1, m1, k1, b1⟩ := R.check
  obtain ⟨f2, fd2, F2, G2, m2, k2, b2⟩ := R.paths
  obtain ⟨f3, fd3, F3, G3, m3, k3, b3⟩ := ok_node_count S2.node_count_ Z z_sum R.levels
  obtain ⟨f4, fd4, F4, G4, m4, k4, b4⟩ := ok_depth S2.depth_ Z R.levels
  obtain ⟨f5, fd5, F5, G5, m5, k5, b5⟩ := ok_term_at S2.term_at_ R.check.to (ok_node_at S2.node_at_ Z R.inner R.within) ((copies S2 Z 100).mono (by omega))
  obtain ⟨f6, fd6, F6, m6, b6⟩ := S.law_right_
  have G1' := fnok_wide (G1.mono (show 8 ≤ 103 by omega)) (sp' := spCheck K) fun vs H Q E ⟨v, t, G0, e, a, q⟩ => ⟨v, t, G0, e, a.sm, a.tm, a.wt, a.sz, a.dp, q⟩
  have G2' := fnok_wide (G2.mono (show 7 ≤ 103 by omega)) (sp' := spPaths K) fun vs H Q E ⟨v, t, G0, e, a, q⟩ => ⟨v, t, G0, e, a.sm, a.tm, a.wt, a.sz, a.dp, q⟩
  have right := ok_right F6 Z z_max G1' m1 k1 b1 (kb1 F1 fun _ _ _ _ _ _ _ => rfl) G2' m2 k2 b2 (kb1 F2 fun _ _ _ _ _ _ _ => rfl) (G3.mono (show 8 ≤ 103 by omega)) m3 k3 b3 (kb1 F3 fun _ _ _ _ _ _ _ => rfl)
    (G4.mono (show 8 ≤ 103 by omega)) m4 k4 b4 (kb1 F4 fun _ _ _ _ _ _ _ => rfl) G5 m5 k5 b5 (kb2 F5 fun _ _ _ _ _ _ _ _ => rfl) ((law_alls S Z 20).mono (by omega)) ((law_clears S Z 60).mono (by omega))
  exact ok_law FL Z ((ok_cell S.law_cell_at_).mono (by omega)) ((ok_next S.law_next_ Z).mono (by omega)) ((law_terms S Z 5).mono (by omega)) ((ok_source S.law_source_of_ Z).mono (by omega)) ((law_wides S Z 3).mono (by omega)) right m6 F6.kp b6
theorem need {h : Heap} {x : Str} {st : Stmt} {ps : List Str} {A : Prop} (_ : K.In h) (S : Stands K mg x st ps) (k : Stands K mg x st ps → A) : A := k S
theorem needI {h : Heap} {x : Str} {i : Int} {A : Prop} (_ : K.In h) (S : ∃ t, mg x = some (.int i t)) (k : (∃ t, mg x = some (.int i t)) → A) : A := k S
theorem tab_of {h : Heap} {D f : Addr} {x y : Str} (X : K.In h) (G : h.Ns mainGlobals mg) (a : PySem.W.nsIn K D x = some (some (.ref f))) (b : PySem.W.nsIn K mainGlobals y = some (some (.ref f))) : ∃ f : Addr, PySem.W.nsIn K D x = some (some (.ref f)) ∧ mg y = some (.ref f) := ⟨f, a, PySem.W.mg_of X G b⟩
theorem needD {h : Heap} {A : Prop} (_ : K.In h) (S : ∃ D es n, Tab w K mg D es n) (k : ∀ D es n, Tab w K mg D es n → A) : A := by
  obtain ⟨D, es, n, a⟩ := S
  exact k D es n a
end
end Vt


set_option Elab.async false
set_option linter.all false
set_option maxRecDepth 100000
open PySem PySem.W PyProof.Rows
set_option maxHeartbeats 0 in
theorem PySem.Challenge.cw_vasttypes_k01_nodes_of_terms_holds : PySem.Challenge.rw_vasttypes_k01_nodes_of_terms.Holds := by
  w_on; o_law; k_head; (case hw => w_witness2)
  k_fill
  refine Vt.walkG (l := PySem.Challenge.rw_vasttypes_k01_nodes_of_terms) (n := 63) (k := 105) (sp := Vt.spLaw) (x := "script") (by decide +kernel) (by decide) rfl ⟨rfl, by decide, by decide⟩ (fun w h Y => PySem.W.kIn_of Y) ?F ?S
  case S =>
    intro K H a ns h1 h2 h3
    exact ⟨a, ns, rfl, h3, by omega, fun _ => rfl⟩
  case F =>
    intro w mg fa h KX G hmg
    refine' Vt.need (x := "_law_next") (st := Vt.s_law_next) (ps := ["source", "many"]) (mg := mg) KX ?s fun S_law_next => ?_
    (case s =>
      refine' Vt.stands KX G ?a ?l ?c ?k (fun _ _ _ _ _ _ us hl => match us, hl with | [_, _], _ => rfl)
      (case a => k_is); (case l => k_is); (case c => k_is); (case k => k_is))
    refine' Vt.need (x := "_law_one") (st := Vt.s_law_one) (ps := ["source", "some"]) (mg := mg) KX ?s fun S_law_one => ?_
    (case s =>
      refine' Vt.stands KX G ?a ?l ?c ?k (fun _ _ _ _ _ _ us hl => match us, hl with | [_, _], _ => rfl)
      (case a => k_is); (case l => k_is); (case c => k_is); (case k => k_is))
    refine' Vt.need (x := "_law_source_of") (st := Vt.s_law_source_of) (ps := ["cell"]) (mg := mg) KX ?s fun S_law_source_of => ?_
    (case s =>
      refine' Vt.stands KX G ?a ?l ?c ?k (fun _ _ _ _ _ _ us hl => match us, hl with | [_], _ => rfl)
      (case a => k_is); (case l => k_is); (case c => k_is); (case k => k_is))
    refine' Vt.need (x := "_law_cell_at") (st := Vt.s_law_cell_at) (ps := ["script", "index"]) (mg := mg) KX ?s fun S_law_cell_at => ?_
    (case s =>
      refine' Vt.stands KX G ?a ?l ?c ?k (fun _ _ _ _ _ _ us hl => match us, hl with | [_, _], _ => rfl)
      (case a => k_is); (case l => k_is); (case c => k_is); (case k => k_is))
    refine' Vt.need (x := "_law_leaf") (st := Vt.s_law_leaf) (ps := ["source", "names"]) (mg := mg) KX ?s fun S_law_leaf => ?_
    (case s =>
      refine' Vt.stands KX G ?a ?l ?c ?k (fun _ _ _ _ _ _ us hl => match us, hl with | [_, _], _ => rfl)
      (case a => k_is); (case l => k_is); (case c => k_is); (case k => k_is))
    refine' Vt.need (x := "_law_record") (st := Vt.s_law_record) (ps := ["source", "names", "deep", "is_plain"]) (mg := mg) KX ?s fun S_law_record => ?_
    (case s =>
      refine' Vt.stands KX G ?a ?l ?c ?k (fun _ _ _ _ _ _ us hl => match us, hl with | [_, _, _, _], _ => rfl)
      (case a => k_is); (case l => k_is); (case c => k_is); (case k => k_is))
    refine' Vt.need (x := "_law_term") (st := Vt.s_law_term) (ps := ["source", "names", "deep"]) (mg := mg) KX ?s fun S_law_term => ?_
    (case s =>
      refine' Vt.stands KX G ?a ?l ?c ?k (fun _ _ _ _ _ _ us hl => match us, hl with | [_, _, _], _ => rfl)
      (case a => k_is); (case l => k_is); (case c => k_is); (case k => k_is))
    refine' Vt.need (x := "_law_below") (st := Vt.s_law_below) (ps := ["node"]) (mg := mg) KX ?s fun S_law_below => ?_
    (case s =>
      refine' Vt.stands KX G ?a ?l ?c ?k (fun _ _ _ _ _ _ us hl => match us, hl with | [_], _ => rfl)
      (case a => k_is); (case l => k_is); (case c => k_is); (case k => k_is))
    refine' Vt.need (x := "_law_wide") (st := Vt.s_law_wide) (ps := ["source", "deep"]) (mg := mg) KX ?s fun S_law_wide => ?_
    (case s =>
      refine' Vt.stands KX G ?a ?l ?c ?k (fun _ _ _ _ _ _ us hl => match us, hl with | [_, _], _ => rfl)
      (case a => k_is); (case l => k_is); (case c => k_is); (case k => k_is))
    refine' Vt.need (x := "_law_cleared") (st := Vt.s_law_cleared) (ps := ["thing"]) (mg := mg) KX ?s fun S_law_cleared => ?_
    (case s =>
      refine' Vt.stands KX G ?a ?l ?c ?k (fun _ _ _ _ _ _ us hl => match us, hl with | [_], _ => rfl)
      (case a => k_is); (case l => k_is); (case c => k_is); (case k => k_is))
    refine' Vt.need (x := "_law_all") (st := Vt.s_law_all) (ps := ["node", "path_here"]) (mg := mg) KX ?s fun S_law_all => ?_
    (case s =>
      refine' Vt.stands KX G ?a ?l ?c ?k (fun _ _ _ _ _ _ us hl => match us, hl with | [_, _], _ => rfl)
      (case a => k_is); (case l => k_is); (case c => k_is); (case k => k_is))
    refine' Vt.need (x := "_law_right") (st := Vt.s_law_right) (ps := ["term_here"]) (mg := mg) KX ?s fun S_law_right => ?_
    (case s =>
      refine' Vt.stands KX G ?a ?l ?c ?k (fun _ _ _ _ _ _ us hl => match us, hl with | [_], _ => rfl)
      (case a => k_is); (case l => k_is); (case c => k_is); (case k => k_is))
    refine' Vt.need (x := "law") (st := Vt.s_law) (ps := ["script"]) (mg := mg) KX ?s fun S_law => ?_
    (case s =>
      refine' Vt.stands KX G ?a ?l ?c ?k (fun _ _ _ _ _ _ us hl => match us, hl with | [_], _ => rfl)
      (case a => k_is); (case l => k_is); (case c => k_is); (case k => k_is))
    refine' Vt.need (x := "is_integer") (st := Vt.s_is_integer) (ps := ["value"]) (mg := mg) KX ?s fun S_is_integer => ?_
    (case s =>
      refine' Vt.stands KX G ?a ?l ?c ?k (fun _ _ _ _ _ _ us hl => match us, hl with | [_], _ => rfl)
      (case a => k_is); (case l => k_is); (case c => k_is); (case k => k_is))
    refine' Vt.need (x := "is_integer_within") (st := Vt.s_is_integer_within) (ps := ["value", "least", "greatest"]) (mg := mg) KX ?s fun S_is_integer_within => ?_
    (case s =>
      refine' Vt.stands KX G ?a ?l ?c ?k (fun _ _ _ _ _ _ us hl => match us, hl with | [_, _, _], _ => rfl)
      (case a => k_is); (case l => k_is); (case c => k_is); (case k => k_is))
    refine' Vt.need (x := "is_name") (st := Vt.s_is_name) (ps := ["value"]) (mg := mg) KX ?s fun S_is_name => ?_
    (case s =>
      refine' Vt.stands KX G ?a ?l ?c ?k (fun _ _ _ _ _ _ us hl => match us, hl with | [_], _ => rfl)
      (case a => k_is); (case l => k_is); (case c => k_is); (case k => k_is))
    refine' Vt.need (x := "are_names") (st := Vt.s_are_names) (ps := ["values"]) (mg := mg) KX ?s fun S_are_names => ?_
    (case s =>
      refine' Vt.stands KX G ?a ?l ?c ?k (fun _ _ _ _ _ _ us hl => match us, hl with | [_], _ => rfl)
      (case a => k_is); (case l => k_is); (case c => k_is); (case k => k_is))
    refine' Vt.need (x := "are_ascending") (st := Vt.s_are_ascending) (ps := ["names"]) (mg := mg) KX ?s fun S_are_ascending => ?_
    (case s =>
      refine' Vt.stands KX G ?a ?l ?c ?k (fun _ _ _ _ _ _ us hl => match us, hl with | [_], _ => rfl)
      (case a => k_is); (case l => k_is); (case c => k_is); (case k => k_is))
    refine' Vt.need (x := "are_fields") (st := Vt.s_are_fields) (ps := ["value", "most"]) (mg := mg) KX ?s fun S_are_fields => ?_
    (case s =>
      refine' Vt.stands KX G ?a ?l ?c ?k (fun _ _ _ _ _ _ us hl => match us, hl with | [_, _], _ => rfl)
      (case a => k_is); (case l => k_is); (case c => k_is); (case k => k_is))
    refine' Vt.need (x := "are_items") (st := Vt.s_are_items) (ps := ["value"]) (mg := mg) KX ?s fun S_are_items => ?_
    (case s =>
      refine' Vt.stands KX G ?a ?l ?c ?k (fun _ _ _ _ _ _ us hl => match us, hl with | [_], _ => rfl)
      (case a => k_is); (case l => k_is); (case c => k_is); (case k => k_is))
    refine' Vt.need (x := "begins_as_function") (st := Vt.s_begins_as_function) (ps := ["value"]) (mg := mg) KX ?s fun S_begins_as_function => ?_
    (case s =>
      refine' Vt.stands KX G ?a ?l ?c ?k (fun _ _ _ _ _ _ us hl => match us, hl with | [_], _ => rfl)
      (case a => k_is); (case l => k_is); (case c => k_is); (case k => k_is))
    refine' Vt.need (x := "inner_of_var") (st := Vt.s_inner_of_var) (ps := ["node"]) (mg := mg) KX ?s fun S_inner_of_var => ?_
    (case s =>
      refine' Vt.stands KX G ?a ?l ?c ?k (fun _ _ _ _ _ _ us hl => match us, hl with | [_], _ => rfl)
      (case a => k_is); (case l => k_is); (case c => k_is); (case k => k_is))
    refine' Vt.need (x := "inner_of_int") (st := Vt.s_inner_of_int) (ps := ["node"]) (mg := mg) KX ?s fun S_inner_of_int => ?_
    (case s =>
      refine' Vt.stands KX G ?a ?l ?c ?k (fun _ _ _ _ _ _ us hl => match us, hl with | [_], _ => rfl)
      (case a => k_is); (case l => k_is); (case c => k_is); (case k => k_is))
    refine' Vt.need (x := "inner_of_bool") (st := Vt.s_inner_of_bool) (ps := ["node"]) (mg := mg) KX ?s fun S_inner_of_bool => ?_
    (case s =>
      refine' Vt.stands KX G ?a ?l ?c ?k (fun _ _ _ _ _ _ us hl => match us, hl with | [_], _ => rfl)
      (case a => k_is); (case l => k_is); (case c => k_is); (case k => k_is))
    refine' Vt.need (x := "inner_of_fun") (st := Vt.s_inner_of_fun) (ps := ["node"]) (mg := mg) KX ?s fun S_inner_of_fun => ?_
    (case s =>
      refine' Vt.stands KX G ?a ?l ?c ?k (fun _ _ _ _ _ _ us hl => match us, hl with | [_], _ => rfl)
      (case a => k_is); (case l => k_is); (case c => k_is); (case k => k_is))
    refine' Vt.need (x := "inner_of_app") (st := Vt.s_inner_of_app) (ps := ["node"]) (mg := mg) KX ?s fun S_inner_of_app => ?_
    (case s =>
      refine' Vt.stands KX G ?a ?l ?c ?k (fun _ _ _ _ _ _ us hl => match us, hl with | [_], _ => rfl)
      (case a => k_is); (case l => k_is); (case c => k_is); (case k => k_is))
    refine' Vt.need (x := "inner_of_let") (st := Vt.s_inner_of_let) (ps := ["node"]) (mg := mg) KX ?s fun S_inner_of_let => ?_
    (case s =>
      refine' Vt.stands KX G ?a ?l ?c ?k (fun _ _ _ _ _ _ us hl => match us, hl with | [_], _ => rfl)
      (case a => k_is); (case l => k_is); (case c => k_is); (case k => k_is))
    refine' Vt.need (x := "inner_of_rec") (st := Vt.s_inner_of_rec) (ps := ["node"]) (mg := mg) KX ?s fun S_inner_of_rec => ?_
    (case s =>
      refine' Vt.stands KX G ?a ?l ?c ?k (fun _ _ _ _ _ _ us hl => match us, hl with | [_], _ => rfl)
      (case a => k_is); (case l => k_is); (case c => k_is); (case k => k_is))
    refine' Vt.need (x := "inner_of_if") (st := Vt.s_inner_of_if) (ps := ["node"]) (mg := mg) KX ?s fun S_inner_of_if => ?_
    (case s =>
      refine' Vt.stands KX G ?a ?l ?c ?k (fun _ _ _ _ _ _ us hl => match us, hl with | [_], _ => rfl)
      (case a => k_is); (case l => k_is); (case c => k_is); (case k => k_is))
    refine' Vt.need (x := "inner_of_tuple") (st := Vt.s_inner_of_tuple) (ps := ["node"]) (mg := mg) KX ?s fun S_inner_of_tuple => ?_
    (case s =>
      refine' Vt.stands KX G ?a ?l ?c ?k (fun _ _ _ _ _ _ us hl => match us, hl with | [_], _ => rfl)
      (case a => k_is); (case l => k_is); (case c => k_is); (case k => k_is))
    refine' Vt.need (x := "inner_of_part") (st := Vt.s_inner_of_part) (ps := ["node"]) (mg := mg) KX ?s fun S_inner_of_part => ?_
    (case s =>
      refine' Vt.stands KX G ?a ?l ?c ?k (fun _ _ _ _ _ _ us hl => match us, hl with | [_], _ => rfl)
      (case a => k_is); (case l => k_is); (case c => k_is); (case k => k_is))
    refine' Vt.need (x := "inner_of_record") (st := Vt.s_inner_of_record) (ps := ["node"]) (mg := mg) KX ?s fun S_inner_of_record => ?_
    (case s =>
      refine' Vt.stands KX G ?a ?l ?c ?k (fun _ _ _ _ _ _ us hl => match us, hl with | [_], _ => rfl)
      (case a => k_is); (case l => k_is); (case c => k_is); (case k => k_is))
    refine' Vt.need (x := "inner_of_field") (st := Vt.s_inner_of_field) (ps := ["node"]) (mg := mg) KX ?s fun S_inner_of_field => ?_
    (case s =>
      refine' Vt.stands KX G ?a ?l ?c ?k (fun _ _ _ _ _ _ us hl => match us, hl with | [_], _ => rfl)
      (case a => k_is); (case l => k_is); (case c => k_is); (case k => k_is))
    refine' Vt.need (x := "inner_of_with") (st := Vt.s_inner_of_with) (ps := ["node"]) (mg := mg) KX ?s fun S_inner_of_with => ?_
    (case s =>
      refine' Vt.stands KX G ?a ?l ?c ?k (fun _ _ _ _ _ _ us hl => match us, hl with | [_], _ => rfl)
      (case a => k_is); (case l => k_is); (case c => k_is); (case k => k_is))
    refine' Vt.need (x := "inner_terms") (st := Vt.s_inner_terms) (ps := ["value"]) (mg := mg) KX ?s fun S_inner_terms => ?_
    (case s =>
      refine' Vt.stands KX G ?a ?l ?c ?k (fun _ _ _ _ _ _ us hl => match us, hl with | [_], _ => rfl)
      (case a => k_is); (case l => k_is); (case c => k_is); (case k => k_is))
    refine' Vt.need (x := "levels_if_term") (st := Vt.s_levels_if_term) (ps := ["value"]) (mg := mg) KX ?s fun S_levels_if_term => ?_
    (case s =>
      refine' Vt.stands KX G ?a ?l ?c ?k (fun _ _ _ _ _ _ us hl => match us, hl with | [_], _ => rfl)
      (case a => k_is); (case l => k_is); (case c => k_is); (case k => k_is))
    refine' Vt.need (x := "nodes_with_paths") (st := Vt.s_nodes_with_paths) (ps := ["value"]) (mg := mg) KX ?s fun S_nodes_with_paths => ?_
    (case s =>
      refine' Vt.stands KX G ?a ?l ?c ?k (fun _ _ _ _ _ _ us hl => match us, hl with | [_], _ => rfl)
      (case a => k_is); (case l => k_is); (case c => k_is); (case k => k_is))
    refine' Vt.need (x := "levels_of") (st := Vt.s_levels_of) (ps := ["term"]) (mg := mg) KX ?s fun S_levels_of => ?_
    (case s =>
      refine' Vt.stands KX G ?a ?l ?c ?k (fun _ _ _ _ _ _ us hl => match us, hl with | [_], _ => rfl)
      (case a => k_is); (case l => k_is); (case c => k_is); (case k => k_is))
    refine' Vt.need (x := "check_term") (st := Vt.s_check_term) (ps := ["value"]) (mg := mg) KX ?s fun S_check_term => ?_
    (case s =>
      refine' Vt.stands KX G ?a ?l ?c ?k (fun _ _ _ _ _ _ us hl => match us, hl with | [_], _ => rfl)
      (case a => k_is); (case l => k_is); (case c => k_is); (case k => k_is))
    refine' Vt.need (x := "paths") (st := Vt.s_paths) (ps := ["term"]) (mg := mg) KX ?s fun S_paths => ?_
    (case s =>
      refine' Vt.stands KX G ?a ?l ?c ?k (fun _ _ _ _ _ _ us hl => match us, hl with | [_], _ => rfl)
      (case a => k_is); (case l => k_is); (case c => k_is); (case k => k_is))
    refine' Vt.need (x := "node_count") (st := Vt.s_node_count) (ps := ["term"]) (mg := mg) KX ?s fun S_node_count => ?_
    (case s =>
      refine' Vt.stands KX G ?a ?l ?c ?k (fun _ _ _ _ _ _ us hl => match us, hl with | [_], _ => rfl)
      (case a => k_is); (case l => k_is); (case c => k_is); (case k => k_is))
    refine' Vt.need (x := "depth") (st := Vt.s_depth) (ps := ["term"]) (mg := mg) KX ?s fun S_depth => ?_
    (case s =>
      refine' Vt.stands KX G ?a ?l ?c ?k (fun _ _ _ _ _ _ us hl => match us, hl with | [_], _ => rfl)
      (case a => k_is); (case l => k_is); (case c => k_is); (case k => k_is))
    refine' Vt.need (x := "copied") (st := Vt.s_copied) (ps := ["term"]) (mg := mg) KX ?s fun S_copied => ?_
    (case s =>
      refine' Vt.stands KX G ?a ?l ?c ?k (fun _ _ _ _ _ _ us hl => match us, hl with | [_], _ => rfl)
      (case a => k_is); (case l => k_is); (case c => k_is); (case k => k_is))
    refine' Vt.need (x := "node_at") (st := Vt.s_node_at) (ps := ["term", "path"]) (mg := mg) KX ?s fun S_node_at => ?_
    (case s =>
      refine' Vt.stands KX G ?a ?l ?c ?k (fun _ _ _ _ _ _ us hl => match us, hl with | [_, _], _ => rfl)
      (case a => k_is); (case l => k_is); (case c => k_is); (case k => k_is))
    refine' Vt.need (x := "term_at") (st := Vt.s_term_at) (ps := ["term", "path"]) (mg := mg) KX ?s fun S_term_at => ?_
    (case s =>
      refine' Vt.stands KX G ?a ?l ?c ?k (fun _ _ _ _ _ _ us hl => match us, hl with | [_, _], _ => rfl)
      (case a => k_is); (case l => k_is); (case c => k_is); (case k => k_is))
    have S := Vt.LawDefs.mk S_law_next S_law_one S_law_source_of S_law_cell_at S_law_leaf S_law_record S_law_term S_law_below S_law_wide S_law_cleared S_law_all S_law_right S_law
    have S1 := Vt.CoreDefs.mk S_is_integer S_is_integer_within S_is_name S_are_names S_are_ascending S_are_fields S_are_items S_begins_as_function S_inner_of_var S_inner_of_int S_inner_of_bool S_inner_of_fun S_inner_of_app S_inner_of_let S_inner_of_rec S_inner_of_if S_inner_of_tuple S_inner_of_part S_inner_of_record S_inner_of_field S_inner_of_with S_inner_terms S_levels_if_term S_nodes_with_paths S_levels_of S_check_term S_paths
    have S2 := Vt.MoreDefs.mk S_node_count S_depth S_copied S_node_at S_term_at
    have z_int : mg "int" = none := PySem.W.mg_none_of KX G (by k_is)
    have z_len : mg "len" = none := PySem.W.mg_none_of KX G (by k_is)
    have z_list : mg "list" = none := PySem.W.mg_none_of KX G (by k_is)
    have z_tuple : mg "tuple" = none := PySem.W.mg_none_of KX G (by k_is)
    have z_str : mg "str" = none := PySem.W.mg_none_of KX G (by k_is)
    have z_bool : mg "bool" = none := PySem.W.mg_none_of KX G (by k_is)
    have z_set : mg "set" = none := PySem.W.mg_none_of KX G (by k_is)
    have z_isinstance : mg "isinstance" = none := PySem.W.mg_none_of KX G (by k_is)
    have z_all : mg "all" = none := PySem.W.mg_none_of KX G (by k_is)
    have z_sorted : mg "sorted" = none := PySem.W.mg_none_of KX G (by k_is)
    have z_range : mg "range" = none := PySem.W.mg_none_of KX G (by k_is)
    have z_enumerate : mg "enumerate" = none := PySem.W.mg_none_of KX G (by k_is)
    have z_zip : mg "zip" = none := PySem.W.mg_none_of KX G (by k_is)
    have z_reversed : mg "reversed" = none := PySem.W.mg_none_of KX G (by k_is)
    have z_repr : mg "repr" = none := PySem.W.mg_none_of KX G (by k_is)
    have z_max : mg "max" = none := PySem.W.mg_none_of KX G (by k_is)
    have z_sum : mg "sum" = none := PySem.W.mg_none_of KX G (by k_is)
    have Z : Vt.Blt mg := ⟨z_int, z_len, z_list, z_tuple, z_str, z_bool, z_set, z_isinstance, z_all, z_sorted, z_range, z_enumerate, z_zip, z_reversed, z_repr⟩
    refine' Vt.needI (x := "MOST_NODES") (i := 400) (mg := mg) KX ?i fun c_MOST_NODES => ?_
    (case i => exact ⟨_, PySem.W.mg_of KX G (by k_is)⟩)
    refine' Vt.needI (x := "MOST_DEPTH") (i := 100) (mg := mg) KX ?i fun c_MOST_DEPTH => ?_
    (case i => exact ⟨_, PySem.W.mg_of KX G (by k_is)⟩)
    refine' Vt.needI (x := "MOST_LETTERS") (i := 8) (mg := mg) KX ?i fun c_MOST_LETTERS => ?_
    (case i => exact ⟨_, PySem.W.mg_of KX G (by k_is)⟩)
    refine' Vt.needI (x := "LEAST_ITEMS") (i := 2) (mg := mg) KX ?i fun c_LEAST_ITEMS => ?_
    (case i => exact ⟨_, PySem.W.mg_of KX G (by k_is)⟩)
    refine' Vt.needI (x := "MOST_ITEMS") (i := 6) (mg := mg) KX ?i fun c_MOST_ITEMS => ?_
    (case i => exact ⟨_, PySem.W.mg_of KX G (by k_is)⟩)
    refine' Vt.needI (x := "MOST_FIELDS") (i := 12) (mg := mg) KX ?i fun c_MOST_FIELDS => ?_
    (case i => exact ⟨_, PySem.W.mg_of KX G (by k_is)⟩)
    refine' Vt.needI (x := "GREATEST") (i := (10 ^ 30)) (mg := mg) KX ?i fun c_GREATEST => ?_
    (case i => exact ⟨_, PySem.W.mg_of KX G (by k_is)⟩)
    have C : Vt.Cst mg := ⟨c_MOST_NODES, c_MOST_DEPTH, c_MOST_LETTERS, c_LEAST_ITEMS, c_MOST_ITEMS, c_MOST_FIELDS, c_GREATEST⟩
    refine' Vt.needD (w := w) (mg := mg) KX ?d fun D es n T => ?_
    (case d =>
      refine' ⟨_, _, _, Vt.Tab.mk (PySem.W.mg_of KX G ?a) ⟨?l, ?k, ?o⟩ (Vt.tab_of KX G ?t0 ?m0) (Vt.tab_of KX G ?t1 ?m1) (Vt.tab_of KX G ?t2 ?m2) (Vt.tab_of KX G ?t3 ?m3) (Vt.tab_of KX G ?t4 ?m4) (Vt.tab_of KX G ?t5 ?m5) (Vt.tab_of KX G ?t6 ?m6) (Vt.tab_of KX G ?t7 ?m7) (Vt.tab_of KX G ?t8 ?m8) (Vt.tab_of KX G ?t9 ?m9) (Vt.tab_of KX G ?t10 ?m10) (Vt.tab_of KX G ?t11 ?m11) (Vt.tab_of KX G ?t12 ?m12)⟩
      (case a => k_is); (case l => k_is); (case k => repeat (first | exact True.intro | refine ⟨⟨_, _, rfl, rfl⟩, ?_⟩)); (case o => rfl)
      (case t0 => k_is); (case m0 => k_is); (case t1 => k_is); (case m1 => k_is); (case t2 => k_is); (case m2 => k_is); (case t3 => k_is); (case m3 => k_is); (case t4 => k_is); (case m4 => k_is); (case t5 => k_is); (case m5 => k_is); (case t6 => k_is); (case m6 => k_is); (case t7 => k_is); (case m7 => k_is); (case t8 => k_is); (case m8 => k_is); (case t9 => k_is); (case m9 => k_is); (case t10 => k_is); (case m10 => k_is); (case t11 => k_is); (case m11 => k_is); (case t12 => k_is); (case m12 => k_is))
    obtain ⟨f, fd, FL, hm, _⟩ := S_law
    have e := hm.symm.trans hmg
    cases e
    refine ⟨fd, fun s u => ?_, fun base hK hG => Vt.law_ok S S1 S2 Z z_max z_sum C T FL⟩
    obtain ⟨_, _, _, _, _, _, _, _, _, rfl, _, _⟩ := FL.ex
    exact .of_eq rfl

