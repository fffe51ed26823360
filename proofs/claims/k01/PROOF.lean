import PyProof.Rows.All
import Wide.All
import OpenK.AllK
import Wide.FinOn
import HandS.Base
import HandS.Call
import HandS.List
import HandS.Comp
import HandS.Words
import KE.KTypeName
import HandS.IsInst
import PyProof.IsiInt
import PyProof.IsiBool
import PyProof.IsiStr
import PyProof.IsiH_tuple
import PyProof.IsiH_list
import HandS.TupAny
import HandS.TupMul
import HandS.Text
import HandS.TupLe
import HandS.StrMore
import HandS.Star
import PyProof.StrOps2
import HandS.Iter
import HandS.Walk
import HandS.SetBool
import HandS.SetKeys
import PyProof.SetRoads
import HandS.Style
import HandS.Dict
import HandS.More
import HandS.CallLocal
import HandS.ForExc
import HandS.ExcIs
import HandS.CallSlots
import HandS.WordsExc
import PyProof.Rows.SeqMore
import PySem.Challenge.RW_termsonwires_k01_judges_and_places
section
set_option Elab.async false
set_option linter.all false
set_option maxRecDepth 100000
/-! DL: plain data over the hand layer: a value of Python as a datum, expressions as functions of data. -/
namespace DL
open PySem PySem.Spec PyProof.Rows L2

inductive D where
  | non | bl (b : Bool) | int (i : Int) | str (s : Str) | tup (l : List D) | lst (l : List D) | mr (k : Nat)

/-- the changeable lists (l), and what is hidden (h: read and written by nobody that is spoken of) -/
structure Mu where
  l : List Addr
  h : List Addr
def Mu.Free (μ : Mu) (a : Addr) : Prop := a ∉ μ.l ∧ a ∉ μ.h
/-- M: what the changeable lists hold -/
abbrev M := List (List D)
abbrev Ev := List (Option D)

mutual
inductive Rep (μ : Mu) (H : Hp) : V → D → Prop
  | non : Rep μ H .non .non
  | bl (b : Bool) : Rep μ H (.bl b) (.bl b)
  | int (i : Int) : Rep μ H (.int i) (.int i)
  | str (s : Str) : Rep μ H (.str s) (.str s)
  | tup {a : Addr} {vs : List V} {ds : List D} : H a = some (.tup vs) → μ.Free a → Reps μ H vs ds → Rep μ H (.ref a) (.tup ds)
  | lst {a : Addr} {vs : List V} {ds : List D} : H a = some (.lst vs) → μ.Free a → Reps μ H vs ds → Rep μ H (.ref a) (.lst ds)
  | mr {a : Addr} {k : Nat} : μ.l[k]? = some a → Rep μ H (.ref a) (.mr k)
inductive Reps (μ : Mu) (H : Hp) : List V → List D → Prop
  | nil : Reps μ H [] []
  | cons {v : V} {d : D} {vs : List V} {ds : List D} : Rep μ H v d → Reps μ H vs ds → Reps μ H (v :: vs) (d :: ds)
end

/-- the heap has grown: what stood, but for the changeable lists, is as it was; the changeable lists may be more -/
structure Post (μ : Mu) (H : Hp) (μ' : Mu) (H' : Hp) : Prop where
  pre : ∃ ν, μ' = ⟨μ.l ++ ν, μ.h⟩ ∧ ∀ a ∈ ν, H a = none
  keep : ∀ a o, H a = some o → a ∉ μ.l → H' a = some o
  dom : ∀ a o, H a = some o → ∃ o', H' a = some o'

theorem Post.refl (μ : Mu) (H : Hp) : Post μ H μ H := ⟨⟨[], by simp, by simp⟩, fun _ _ h _ => h, fun _ o h => ⟨o, h⟩⟩
theorem Post.trans {μ μ1 μ2 : Mu} {H H1 H2 : Hp} (p : Post μ H μ1 H1) (q : Post μ1 H1 μ2 H2) : Post μ H μ2 H2 := by
  obtain ⟨ν, rfl, hν⟩ := p.pre
  obtain ⟨ν', rfl, hν'⟩ := q.pre
  refine ⟨⟨ν ++ ν', by simp, fun a ha => ?_⟩, fun a o h hn => ?_, fun a o h => ?_⟩
  · rcases List.mem_append.mp ha with z | z
    · exact hν a z
    · cases e : H a with
      | none => rfl
      | some o =>
        obtain ⟨o', e'⟩ := p.dom a o e
        rw [hν' a z] at e'; cases e'
  · refine q.keep a o (p.keep a o h hn) ?_
    intro z
    rcases List.mem_append.mp z with z | z
    · exact hn z
    · rw [hν a z] at h; cases h
  · obtain ⟨o1, e1⟩ := p.dom a o h
    exact q.dom a o1 e1

theorem get_pre {α : Type} {l ν : List α} {k : Nat} {a : α} (h : l[k]? = some a) : (l ++ ν)[k]? = some a := by
  obtain ⟨hk, e⟩ := List.getElem?_eq_some_iff.mp h
  rw [List.getElem?_append_left hk, h]

theorem rep_grow {μ μ' : Mu} {H H' : Hp} (p : Post μ H μ' H') :
    (∀ v d, Rep μ H v d → Rep μ' H' v d) ∧ (∀ vs ds, Reps μ H vs ds → Reps μ' H' vs ds) := by
  obtain ⟨ν, rfl, hν⟩ := p.pre
  have out : ∀ {a : Addr} {o : HO}, H a = some o → μ.Free a → Mu.Free ⟨μ.l ++ ν, μ.h⟩ a := fun {a o} h hn => by
    refine ⟨fun z => ?_, hn.2⟩
    rcases List.mem_append.mp z with z | z
    · exact hn.1 z
    · rw [hν a z] at h; cases h
  refine ⟨fun v d r => ?_, fun vs ds r => ?_⟩
  · exact Rep.rec (motive_1 := fun v d _ => Rep ⟨μ.l ++ ν, μ.h⟩ H' v d) (motive_2 := fun vs ds _ => Reps ⟨μ.l ++ ν, μ.h⟩ H' vs ds)
      .non .bl .int .str (fun h hn _ ih => .tup (p.keep _ _ h hn.1) (out h hn) ih) (fun h hn _ ih => .lst (p.keep _ _ h hn.1) (out h hn) ih) (fun h => .mr (get_pre h)) .nil (fun _ _ ih1 ih2 => .cons ih1 ih2) r
  · exact Reps.rec (motive_1 := fun v d _ => Rep ⟨μ.l ++ ν, μ.h⟩ H' v d) (motive_2 := fun vs ds _ => Reps ⟨μ.l ++ ν, μ.h⟩ H' vs ds)
      .non .bl .int .str (fun h hn _ ih => .tup (p.keep _ _ h hn.1) (out h hn) ih) (fun h hn _ ih => .lst (p.keep _ _ h hn.1) (out h hn) ih) (fun h => .mr (get_pre h)) .nil (fun _ _ ih1 ih2 => .cons ih1 ih2) r
/-- the same where the free addresses of the one are free in the other, and stand there as they stood -/
theorem rep_move {μ μ' : Mu} {H H' : Hp} (hl : μ'.l = μ.l) (hf : ∀ a o, H a = some o → μ.Free a → μ'.Free a ∧ H' a = some o) :
    (∀ v d, Rep μ H v d → Rep μ' H' v d) ∧ (∀ vs ds, Reps μ H vs ds → Reps μ' H' vs ds) := by
  refine ⟨fun v d r => ?_, fun vs ds r => ?_⟩
  · exact Rep.rec (motive_1 := fun v d _ => Rep μ' H' v d) (motive_2 := fun vs ds _ => Reps μ' H' vs ds)
      .non .bl .int .str (fun h hn _ ih => .tup (hf _ _ h hn).2 (hf _ _ h hn).1 ih) (fun h hn _ ih => .lst (hf _ _ h hn).2 (hf _ _ h hn).1 ih) (fun h => .mr (by rw [hl]; exact h)) .nil (fun _ _ ih1 ih2 => .cons ih1 ih2) r
  · exact Reps.rec (motive_1 := fun v d _ => Rep μ' H' v d) (motive_2 := fun vs ds _ => Reps μ' H' vs ds)
      .non .bl .int .str (fun h hn _ ih => .tup (hf _ _ h hn).2 (hf _ _ h hn).1 ih) (fun h hn _ ih => .lst (hf _ _ h hn).2 (hf _ _ h hn).1 ih) (fun h => .mr (by rw [hl]; exact h)) .nil (fun _ _ ih1 ih2 => .cons ih1 ih2) r
theorem Rep.grow {μ μ' : Mu} {H H' : Hp} {v : V} {d : D} (r : Rep μ H v d) (p : Post μ H μ' H') : Rep μ' H' v d := (rep_grow p).1 v d r
theorem Reps.grow {μ μ' : Mu} {H H' : Hp} {vs : List V} {ds : List D} (r : Reps μ H vs ds) (p : Post μ H μ' H') : Reps μ' H' vs ds := (rep_grow p).2 vs ds r

theorem Reps.length {μ : Mu} {H : Hp} : ∀ {vs : List V} {ds : List D}, Reps μ H vs ds → vs.length = ds.length
  | _, _, .nil => rfl
  | _, _, .cons _ t => congrArg (· + 1) (Reps.length t)
theorem Reps.get {μ : Mu} {H : Hp} : ∀ {vs : List V} {ds : List D} {i : Nat} {d : D}, Reps μ H vs ds → ds[i]? = some d → ∃ v, vs[i]? = some v ∧ Rep μ H v d
  | _, _, _, _, .nil, e => by simp at e
  | _, _, 0, d, .cons r _, e => by simp at e; subst e; exact ⟨_, rfl, r⟩
  | _, _, i + 1, d, .cons _ t, e => by
    obtain ⟨v, h1, h2⟩ := Reps.get (i := i) (d := d) t (by simpa using e)
    exact ⟨v, by simpa using h1, h2⟩
theorem Reps.append {μ : Mu} {H : Hp} : ∀ {vs ws : List V} {ds es : List D}, Reps μ H vs ds → Reps μ H ws es → Reps μ H (vs ++ ws) (ds ++ es)
  | _, _, _, _, .nil, t => t
  | _, _, _, _, .cons r s, t => .cons r (Reps.append s t)
theorem Reps.take {μ : Mu} {H : Hp} : ∀ {vs : List V} {ds : List D} (n : Nat), Reps μ H vs ds → Reps μ H (vs.take n) (ds.take n)
  | _, _, 0, _ => .nil
  | _, _, _ + 1, .nil => .nil
  | _, _, n + 1, .cons r t => .cons r (Reps.take n t)
theorem Reps.drop {μ : Mu} {H : Hp} : ∀ {vs : List V} {ds : List D} (n : Nat), Reps μ H vs ds → Reps μ H (vs.drop n) (ds.drop n)
  | _, _, 0, r => r
  | _, _, _ + 1, .nil => .nil
  | _, _, n + 1, .cons _ t => Reps.drop n t
theorem Reps.reverse {μ : Mu} {H : Hp} : ∀ {vs : List V} {ds : List D}, Reps μ H vs ds → Reps μ H vs.reverse ds.reverse
  | _, _, .nil => .nil
  | _, _, .cons r t => by
    rw [List.reverse_cons, List.reverse_cons]
    exact (Reps.reverse t).append (.cons r .nil)
theorem Reps.dropLast {μ : Mu} {H : Hp} {vs : List V} {ds : List D} (r : Reps μ H vs ds) : Reps μ H vs.dropLast ds.dropLast := by
  rw [List.dropLast_eq_take, List.dropLast_eq_take, r.length]
  exact r.take _
theorem Reps.rep {μ : Mu} {H : Hp} {vs : List V} {ds : List D} (h : Reps μ H vs ds) : ∀ k : Nat, Reps μ H (List.replicate k vs).flatten (List.replicate k ds).flatten
  | 0 => .nil
  | k + 1 => by
    rw [List.replicate_succ, List.replicate_succ, List.flatten_cons, List.flatten_cons]
    exact h.append (h.rep k)

/-- the changeable lists hold what m says -/
structure MOk (μ : Mu) (H : Hp) (m : M) : Prop where
  nd : μ.l.Nodup
  len : m.length = μ.l.length
  at_ : ∀ (k : Nat) (a : Addr) (ds : List D), μ.l[k]? = some a → m[k]? = some ds → ∃ vs, H a = some (.lst vs) ∧ Reps μ H vs ds
  hid : ∀ a ∈ μ.h, a ∉ μ.l ∧ ∃ o, H a = some o

theorem MOk.has {μ : Mu} {H : Hp} {m : M} (h : MOk μ H m) {a : Addr} (ha : a ∈ μ.l) : ∃ vs, H a = some (.lst vs) := by
  obtain ⟨k, hk, e⟩ := List.mem_iff_getElem.mp ha
  have hm : k < m.length := by rw [h.len]; exact hk
  obtain ⟨vs, e2, _⟩ := h.at_ k a m[k] (by rw [List.getElem?_eq_getElem hk, e]) (List.getElem?_eq_getElem hm)
  exact ⟨vs, e2⟩
/-- a fresh object is laid -/
theorem post_new {μ : Mu} {H : Hp} {p : Addr} (hp : H p = none) (o : HO) : Post μ H μ (upd H p o) :=
  ⟨⟨[], by simp, by simp⟩, fun a u h _ => by rw [upd_ne (ne_of_none h hp)]; exact h, fun a u h => ⟨u, by rw [upd_ne (ne_of_none h hp)]; exact h⟩⟩
/-- the changeable lists stay where nothing of theirs is written -/
theorem MOk.grow {μ : Mu} {H H' : Hp} {m : M} (h : MOk μ H m) (p : Post μ H μ H') (k : ∀ a ∈ μ.l, H' a = H a) : MOk μ H' m :=
  ⟨h.nd, h.len, fun i a ds h1 h2 => by
    obtain ⟨vs, e, r⟩ := h.at_ i a ds h1 h2
    exact ⟨vs, by rw [k a (List.mem_of_getElem? h1)]; exact e, r.grow p⟩, fun a ha => by
    obtain ⟨n, o, e⟩ := h.hid a ha
    exact ⟨n, p.dom a o e⟩⟩
theorem MOk.new {μ : Mu} {H : Hp} {m : M} (h : MOk μ H m) {p : Addr} (hp : H p = none) (o : HO) : MOk μ (upd H p o) m :=
  h.grow (post_new hp o) fun a ha => by
    obtain ⟨vs, e⟩ := h.has ha
    rw [upd_ne (ne_of_none e hp)]
theorem MOk.free {μ : Mu} {H : Hp} {m : M} (h : MOk μ H m) {p : Addr} (hp : H p = none) : μ.Free p := by
  refine ⟨fun z => ?_, fun z => ?_⟩
  · obtain ⟨vs, e⟩ := h.has z
    rw [hp] at e; cases e
  · obtain ⟨_, o, e⟩ := h.hid p z
    rw [hp] at e; cases e

/-- the slots hold what the environment says -/
structure REnv (μ : Mu) (H : Hp) (σ : L2.St) (ε : Ev) : Prop where
  len : σ.length = ε.length
  at_ : ∀ (i : Nat) (d : D), ε[i]? = some (some d) → ∃ v, σ[i]? = some (some v) ∧ Rep μ H v d
theorem REnv.grow {μ μ' : Mu} {H H' : Hp} {σ : L2.St} {ε : Ev} (r : REnv μ H σ ε) (p : Post μ H μ' H') : REnv μ' H' σ ε :=
  ⟨r.len, fun i d e => let ⟨v, e1, r1⟩ := r.at_ i d e; ⟨v, e1, r1.grow p⟩⟩
theorem REnv.set {μ : Mu} {H : Hp} {σ : L2.St} {ε : Ev} (r : REnv μ H σ ε) {v : V} {d : D} (rv : Rep μ H v d) (i : Nat) : REnv μ H (σ.set i (some v)) (ε.set i (some d)) := by
  refine ⟨by simp [r.len], fun j e h => ?_⟩
  rw [List.getElem?_set] at h
  rw [List.getElem?_set]
  split at h
  · rename_i hij
    subst hij
    split at h
    · rename_i hlt
      injection h with h; injection h with h
      subst h
      refine ⟨v, ?_, rv⟩
      rw [if_pos rfl, if_pos (by rw [r.len]; exact hlt)]
    · cases h
  · rename_i hij
    obtain ⟨w, e1, r1⟩ := r.at_ j e h
    exact ⟨w, by rw [if_neg hij]; exact e1, r1⟩
end DL
end
section
set_option Elab.async false
set_option linter.all false
set_option maxRecDepth 100000
namespace DL
open PySem PySem.Spec PyProof.Rows L2

abbrev F := Ev → M → Option (D × M)
abbrev FT := Ev → M → Option (Bool × M)
abbrev FA := Ev → M → Option (List D × M)
/-- readings by functions of data -/
def tD (f : F) : TE := fun σ H Q => ∃ μ ε m d m', REnv μ H σ ε ∧ MOk μ H m ∧ f ε m = some (d, m') ∧ ∀ v H', Post μ H μ H' → MOk μ H' m' → Rep μ H' v d → Q v H'
def tDT (f : FT) : TT := fun σ H Q => ∃ μ ε m b m', REnv μ H σ ε ∧ MOk μ H m ∧ f ε m = some (b, m') ∧ ∀ H', Post μ H μ H' → MOk μ H' m' → Q b H'
def tDA (f : FA) : TA := fun σ H Q => ∃ μ ε m ds m', REnv μ H σ ε ∧ MOk μ H m ∧ f ε m = some (ds, m') ∧ ∀ vs H', Post μ H μ H' → MOk μ H' m' → Reps μ H' vs ds → Q vs H'

theorem PE.weak {X : Cx} {e : Expr} {t t' : TE} (h : PE X e t) (w : ∀ σ H Q, t' σ H Q → t σ H Q) : PE X e t' := ⟨fun pins s σ H Q I q => h.run pins s σ H Q I (w σ H Q q)⟩
theorem PT.weak {X : Cx} {e : Expr} {t t' : TT} (h : PT X e t) (w : ∀ σ H Q, t' σ H Q → t σ H Q) : PT X e t' := ⟨fun pins s σ H Q I q => h.run pins s σ H Q I (w σ H Q q)⟩
theorem PW.weak {X : Cx} {e : Expr} {t t' : TT} (h : PW X e t) (w : ∀ σ H Q, t' σ H Q → t σ H Q) : PW X e t' := ⟨fun wh pins s σ H Q I q => h.run wh pins s σ H Q I (w σ H Q q)⟩
theorem PA.weak {X : Cx} {e : List Expr} {t t' : TA} (h : PA X e t) (w : ∀ σ H Q, t' σ H Q → t σ H Q) : PA X e t' := ⟨fun pos pins s σ H Q I q => h.run pos pins s σ H Q I (w σ H Q q)⟩
theorem PS.weak {X : Cx} {e : Stmt} {t t' : TS} (h : PS X e t) (w : ∀ D σ H, t' D σ H → t D σ H) : PS X e t' := ⟨fun pins s σ H D I q => h.run pins s σ H D I (w D σ H q)⟩
theorem PSs.weak {X : Cx} {e : List Stmt} {t t' : TS} (h : PSs X e t) (w : ∀ D σ H, t' D σ H → t D σ H) : PSs X e t' := ⟨fun pins s σ H D I q => h.run pins s σ H D I (w D σ H q)⟩

/-! ### one evaluation, what follows in the grown heap -/
theorem tD.step {f : F} {σ : L2.St} {H : Hp} {Q : VK} {μ : Mu} {ε : Ev} {m : M} {d : D} {m' : M} (re : REnv μ H σ ε) (ok : MOk μ H m) (e : f ε m = some (d, m'))
    (h : ∀ v H', Post μ H μ H' → MOk μ H' m' → REnv μ H' σ ε → Rep μ H' v d → Q v H') : tD f σ H Q :=
  ⟨μ, ε, m, d, m', re, ok, e, fun v H' p ok' r => h v H' p ok' (re.grow p) r⟩
theorem tDT.step {f : FT} {σ : L2.St} {H : Hp} {Q : Bool → Hp → Prop} {μ : Mu} {ε : Ev} {m : M} {d : Bool} {m' : M} (re : REnv μ H σ ε) (ok : MOk μ H m) (e : f ε m = some (d, m'))
    (h : ∀ H', Post μ H μ H' → MOk μ H' m' → REnv μ H' σ ε → Q d H') : tDT f σ H Q :=
  ⟨μ, ε, m, d, m', re, ok, e, fun H' p ok' => h H' p ok' (re.grow p)⟩
theorem tDA.step {f : FA} {σ : L2.St} {H : Hp} {Q : List V → Hp → Prop} {μ : Mu} {ε : Ev} {m : M} {d : List D} {m' : M} (re : REnv μ H σ ε) (ok : MOk μ H m) (e : f ε m = some (d, m'))
    (h : ∀ v H', Post μ H μ H' → MOk μ H' m' → REnv μ H' σ ε → Reps μ H' v d → Q v H') : tDA f σ H Q :=
  ⟨μ, ε, m, d, m', re, ok, e, fun v H' p ok' r => h v H' p ok' (re.grow p) r⟩

/-! ### names and constants -/
def fV (i : Nat) : F := fun ε m => (ε[i]?.bind id).map fun d => (d, m)
def fC (d : D) : F := fun _ m => some (d, m)
section
variable {X : Cx} {a b c : Expr} {fa fb fc : F} {pos : Pos}
theorem d_var (i : Nat) {x : Str} {pos : Pos} (hN : X.N[i]? = some x := by rfl) (hv : Vis X.env.scope x := by first | exact Or.inl rfl | exact Or.inr (Or.inl rfl) | exact Or.inr (Or.inr rfl)) (hd : (x == ("__debug__" : Str)) = false := by decide)
    (hcd : (x == ("__classdict__" : Str)) = false := by decide) : PE X (.Name x pos) (tD (fV i)) := by
  refine PE.weak (pe_var hN hv hd hcd) fun σ H Q ⟨μ, ε, m, d, m', re, ok, e, q⟩ => ?_
  unfold fV at e
  cases e1 : ε[i]? with
  | none => rw [e1] at e; cases e
  | some o =>
    rw [e1] at e
    cases o with
    | none => cases e
    | some d' =>
      simp at e
      obtain ⟨rfl, rfl⟩ := e
      obtain ⟨v, e2, r⟩ := re.at_ i d' e1
      exact ⟨v, e2, q v H (Post.refl _ _) ok r⟩
theorem d_const {e : Expr} {v : V} {d : D} (h : PE X e (tC v)) (r : ∀ μ H, Rep μ H v d) : PE X e (tD (fC d)) := by
  refine PE.weak h fun σ H Q ⟨μ, ε, m, d, m', re, ok, e, q⟩ => ?_
  unfold fC at e
  simp at e
  obtain ⟨rfl, rfl⟩ := e
  exact q v H (Post.refl _ _) ok (r μ H)
theorem d_int {i j pos} : PE X (.Constant (.int i) j pos) (tD (fC (.int i))) := d_const pe_int fun _ _ => .int i
theorem d_bl {i j pos} : PE X (.Constant (.bool i) j pos) (tD (fC (.bl i))) := d_const pe_bl fun _ _ => .bl i
theorem d_str {i j pos} : PE X (.Constant (.str i) j pos) (tD (fC (.str i))) := d_const pe_str fun _ _ => .str i
theorem d_non {j pos} : PE X (.Constant .none j pos) (tD (fC .non)) := d_const pe_non fun _ _ => .non
theorem d_globI {x : Str} {i : Int} {pos : Pos} (hg : Gl X x) (hm : ∃ t, X.mg x = some (.int i t)) (hd : (x == ("__debug__" : Str)) = false := by decide) : PE X (.Name x pos) (tD (fC (.int i))) := by
  obtain ⟨t, hm⟩ := hm
  exact d_const (v := .int i) (pe_glob hg hm ⟨t, rfl⟩ hd) fun _ _ => .int i
theorem d_globS {x : Str} {i : Str} {pos : Pos} (hg : Gl X x) (hm : ∃ t, X.mg x = some (.str i t)) (hd : (x == ("__debug__" : Str)) = false := by decide) : PE X (.Name x pos) (tD (fC (.str i))) := by
  obtain ⟨t, hm⟩ := hm
  exact d_const (v := .str i) (pe_glob hg hm ⟨t, rfl⟩ hd) fun _ _ => .str i

/-! ### two-place operations -/
abbrev G2 := D → D → M → Option D
def fBin (g : G2) (fa fb : F) : F := fun ε m => (fa ε m).bind fun p => (fb ε p.2).bind fun q => (g p.1 q.1 q.2).map fun d => (d, q.2)
/-- what an operation's rule is to give for data -/
def Fits2 (r : R2) (g : G2) : Prop := ∀ (μ : Mu) (H : Hp) (m : M) (x y : V) (dx dy d : D) (Q : VK), MOk μ H m → Rep μ H x dx → Rep μ H y dy → g dx dy m = some d →
  (∀ v H', Post μ H μ H' → MOk μ H' m → Rep μ H' v d → Q v H') → r x y H Q
theorem d_binT {r : R2} {g : G2} (hr : Fits2 r g) {σ : L2.St} {H : Hp} {Q : VK} (h : tD (fBin g fa fb) σ H Q) : tOp r (tD fa) (tD fb) σ H Q := by
  obtain ⟨μ, ε, m, d, m', re, ok, e, q⟩ := h
  unfold fBin at e
  cases e1 : fa ε m with
  | none => rw [e1] at e; cases e
  | some p =>
    obtain ⟨dx, m1⟩ := p
    rw [e1] at e
    simp only [Option.bind_some] at e
    cases e2 : fb ε m1 with
    | none => rw [e2] at e; cases e
    | some p =>
      obtain ⟨dy, m2⟩ := p
      rw [e2] at e
      simp only [Option.bind_some] at e
      cases e3 : g dx dy m2 with
      | none => rw [e3] at e; cases e
      | some d' =>
        rw [e3] at e
        simp at e
        obtain ⟨rfl, rfl⟩ := e
        refine tD.step re ok e1 fun x H1 p1 ok1 re1 r1 => ?_
        refine tD.step re1 ok1 e2 fun y H2 p2 ok2 re2 r2 => ?_
        exact hr μ H2 m2 x y dx dy d' Q ok2 (r1.grow p2) r2 e3 fun v H3 p3 ok3 r3 => q v H3 ((p1.trans p2).trans p3) ok3 r3
theorem d_op {op : Operator} {r : R2} {g : G2} (ho : OpR X (binaryOp op) r) (hr : Fits2 r g) (ha : PE X a (tD fa)) (hb : PE X b (tD fb)) : PE X (.BinOp a op b pos) (tD (fBin g fa fb)) :=
  PE.weak (pe_op ho ha hb) fun _ _ _ h => d_binT hr h
theorem d_cmp {op : CmpOp} {r : R2} {g : G2} (ho : OpR X (compareOp op) r) (hr : Fits2 r g) (ha : PE X a (tD fa)) (hb : PE X b (tD fb)) (hm : behindInMarks op b = false) : PE X (.Compare a [op] [b] pos) (tD (fBin g fa fb)) :=
  PE.weak (pe_cmpR ho ha hb hm) fun _ _ _ h => d_binT hr h
theorem d_ix {r : R2} {g : G2} (ho : IxR X r) (hr : Fits2 r g) (ha : PE X a (tD fa)) (hb : PE X b (tD fb)) (hs : PlainIx b) : PE X (.Subscript a b pos) (tD (fBin g fa fb)) :=
  PE.weak (pe_ix ho ha hb hs) fun _ _ _ h => d_binT hr h

theorem Fits2.or {r r' : R2} {g g' : G2} (h : Fits2 r g) (h' : Fits2 r' g') : Fits2 (fun x y H Q => r x y H Q ∨ r' x y H Q) (fun x y m => (g x y m).or (g' x y m)) := by
  intro μ H m x y dx dy d Q ok r1 r2 e q
  cases e1 : g dx dy m with
  | some d1 =>
    simp only [e1, Option.some_or] at e
    exact .inl (h μ H m x y dx dy d Q ok r1 r2 (e1.trans e) q)
  | none =>
    simp only [e1, Option.none_or] at e
    exact .inr (h' μ H m x y dx dy d Q ok r1 r2 e q)

/-! ### tests -/
def fT (f : F) : FT := fun ε m => (f ε m).bind fun p => match p.1 with | .bl b => some (b, p.2) | _ => none
theorem tTest_of {f : F} {σ : L2.St} {H : Hp} {Q : Bool → Hp → Prop} (h : tDT (fT f) σ H Q) : tD f σ H fun x H' => ∃ k, x = .bl k ∧ Q k H' := by
  obtain ⟨μ, ε, m, b, m', re, ok, e, q⟩ := h
  unfold fT at e
  cases e1 : f ε m with
  | none => rw [e1] at e; cases e
  | some p =>
    obtain ⟨d, m1⟩ := p
    rw [e1] at e
    simp only [Option.bind_some] at e
    cases d with
    | bl k =>
      simp at e
      obtain ⟨rfl, rfl⟩ := e
      refine tD.step re ok e1 fun v H1 p1 ok1 re1 r1 => ?_
      cases r1
      exact ⟨k, rfl, q H1 p1 ok1⟩
    | _ => cases e
theorem dt_cmp {op : CmpOp} {r : R2} {g : G2} (ho : OpR X (compareOp op) r) (hr : Fits2 r g) (ha : PE X a (tD fa)) (hb : PE X b (tD fb)) (hm : behindInMarks op b = false) : PT X (.Compare a [op] [b] pos) (tDT (fT (fBin g fa fb))) :=
  PT.weak (pt_cmpR ho ha hb hm) fun σ H Q h => d_binT hr (tTest_of h)
/-- any value by its truth -/
def truD : D → M → Option Bool
  | .non, _ => some false
  | .bl b, _ => some b
  | .int i, _ => some (i != 0)
  | .str y, _ => if y.length ≤ sizeLine then some ((y.length : Int) != 0) else none
  | .tup l, _ => some (!l.isEmpty)
  | .lst l, _ => some (!l.isEmpty)
  | .mr k, m => m[k]?.map fun l => !l.isEmpty
def fTru (f : F) : FT := fun ε m => (f ε m).bind fun p => (truD p.1 p.2).map fun b => (b, p.2)
theorem reps_empty {μ : Mu} {H : Hp} {vs : List V} {ds : List D} (r : Reps μ H vs ds) : vs.isEmpty = ds.isEmpty := by cases r <;> rfl
theorem tru_rep {K : PySem.W.Frag} {μ : Mu} {H : Hp} {m : M} {v : V} {d : D} {k : Bool} (ok : MOk μ H m) (r : Rep μ H v d) (e : truD d m = some k) : TruV K v H k := by
  cases r with
  | non => exact (Option.some.inj e).symm
  | bl b => exact (Option.some.inj e).symm
  | int i => exact (Option.some.inj e).symm
  | str y =>
    have e : (if y.length ≤ sizeLine then some ((y.length : Int) != 0) else none) = some k := e
    split at e
    · rename_i hl; exact ⟨hl, (Option.some.inj e).symm⟩
    · cases e
  | tup h hn rs => exact .inr (.inl ⟨_, SqT.of h, by rw [reps_empty rs]; exact (Option.some.inj e).symm⟩)
  | lst h hn rs => exact .inl ⟨_, SqL.of h, by rw [reps_empty rs]; exact (Option.some.inj e).symm⟩
  | @mr a i h =>
    have e : (m[i]?.map fun l => !l.isEmpty) = some k := e
    cases e1 : m[i]? with
    | none => rw [e1] at e; cases e
    | some ds =>
      rw [e1] at e
      obtain ⟨vs, hv, rs⟩ := ok.at_ i a ds h e1
      exact .inl ⟨vs, SqL.of hv, by rw [reps_empty rs]; exact (Option.some.inj e).symm⟩
theorem dt_tru (ha : PE X a (tD fa)) (he : ∀ whole, isTrue a X.env whole = (do let v ← whole; standAt a.pos; holding [v] (truthy v)) := by intro _; rfl) : PT X a (tDT (fTru fa)) := by
  refine PT.weak (pt_truth ha he) fun σ H Q ⟨μ, ε, m, b, m', re, ok, e, q⟩ => ?_
  unfold fTru at e
  cases e1 : fa ε m with
  | none => rw [e1] at e; cases e
  | some p =>
    obtain ⟨d, m1⟩ := p
    rw [e1] at e
    simp only [Option.bind_some] at e
    cases e2 : truD d m1 with
    | none => rw [e2] at e; cases e
    | some k =>
      rw [e2] at e
      simp at e
      obtain ⟨rfl, rfl⟩ := e
      exact tD.step re ok e1 fun v H1 p1 ok1 re1 r1 => ⟨k, tru_rep ok1 r1 e2, q H1 p1 ok1⟩
def fAndT (f g : FT) : FT := fun ε m => (f ε m).bind fun p => if p.1 = true then g ε p.2 else some (false, p.2)
def fOrT (f g : FT) : FT := fun ε m => (f ε m).bind fun p => if p.1 = true then some (true, p.2) else g ε p.2
def fNotT (f : FT) : FT := fun ε m => (f ε m).map fun p => (!p.1, p.2)
variable {rest : List Expr} {ta tb : FT}
theorem dw_and1 (ha : PT X a (tDT ta)) : PW X (.BoolOp .And [a] pos) (tDT ta) := pw_and1 ha
theorem dw_or1 (ha : PT X a (tDT ta)) : PW X (.BoolOp .Or [a] pos) (tDT ta) := pw_or1 ha
theorem dw_and (ha : PT X a (tDT ta)) (hb : PW X (.BoolOp .And (b :: rest) pos) (tDT tb)) : PW X (.BoolOp .And (a :: b :: rest) pos) (tDT (fAndT ta tb)) := by
  refine PW.weak (pw_and ha hb) fun σ H Q ⟨μ, ε, m, k, m', re, ok, e, q⟩ => ?_
  unfold fAndT at e
  cases e1 : ta ε m with
  | none => rw [e1] at e; cases e
  | some p =>
    obtain ⟨b1, m1⟩ := p
    rw [e1] at e
    simp only [Option.bind_some] at e
    refine tDT.step re ok e1 fun H1 p1 ok1 re1 => ?_
    cases b1 with
    | true =>
      rw [if_pos rfl] at e ⊢
      exact tDT.step re1 ok1 e fun H2 p2 ok2 _ => q H2 (p1.trans p2) ok2
    | false =>
      rw [if_neg Bool.false_ne_true] at e ⊢
      simp at e
      obtain ⟨rfl, rfl⟩ := e
      exact q H1 p1 ok1
theorem dw_or (ha : PT X a (tDT ta)) (hb : PW X (.BoolOp .Or (b :: rest) pos) (tDT tb)) : PW X (.BoolOp .Or (a :: b :: rest) pos) (tDT (fOrT ta tb)) := by
  refine PW.weak (pw_or ha hb) fun σ H Q ⟨μ, ε, m, k, m', re, ok, e, q⟩ => ?_
  unfold fOrT at e
  cases e1 : ta ε m with
  | none => rw [e1] at e; cases e
  | some p =>
    obtain ⟨b1, m1⟩ := p
    rw [e1] at e
    simp only [Option.bind_some] at e
    refine tDT.step re ok e1 fun H1 p1 ok1 re1 => ?_
    cases b1 with
    | false =>
      rw [if_neg Bool.false_ne_true] at e ⊢
      exact tDT.step re1 ok1 e fun H2 p2 ok2 _ => q H2 (p1.trans p2) ok2
    | true =>
      rw [if_pos rfl] at e ⊢
      simp at e
      obtain ⟨rfl, rfl⟩ := e
      exact q H1 p1 ok1
theorem dt_not (ha : PT X a (tDT ta)) : PT X (.UnaryOp .Not a pos) (tDT (fNotT ta)) := by
  refine PT.weak (pt_not ha) fun σ H Q ⟨μ, ε, m, k, m', re, ok, e, q⟩ => ?_
  unfold fNotT at e
  cases e1 : ta ε m with
  | none => rw [e1] at e; cases e
  | some p =>
    obtain ⟨b1, m1⟩ := p
    rw [e1] at e
    simp only [Option.map_some, Option.some.injEq, Prod.mk.injEq] at e
    obtain ⟨h1, h2⟩ := e
    rw [← h1, ← h2] at q
    exact tDT.step re ok e1 fun H1 p1 ok1 re1 => q H1 p1 ok1
/-! ### and, or, not as values (the left ones True or False) -/
def fAnd (f g : F) : F := fun ε m => (f ε m).bind fun p => match p.1 with | .bl true => g ε p.2 | .bl false => some (.bl false, p.2) | _ => none
def fOr (f g : F) : F := fun ε m => (f ε m).bind fun p => match p.1 with | .bl false => g ε p.2 | .bl true => some (.bl true, p.2) | _ => none
def fNot (f : F) : F := fun ε m => (f ε m).bind fun p => match p.1 with | .bl b => some (.bl !b, p.2) | _ => none
def fIf (t : FT) (f g : F) : F := fun ε m => (t ε m).bind fun p => if p.1 = true then f ε p.2 else g ε p.2
theorem d_one {op} (h : PE X a (tD fa)) : PE X (.BoolOp op [a] pos) (tD fa) := pe_one h
theorem d_and (ha : PE X a (tD fa)) (hb : PE X (.BoolOp .And (b :: rest) pos) (tD fb)) : PE X (.BoolOp .And (a :: b :: rest) pos) (tD (fAnd fa fb)) := by
  refine PE.weak (pe_and ha hb) fun σ H Q ⟨μ, ε, m, k, m', re, ok, e, q⟩ => ?_
  unfold fAnd at e
  cases e1 : fa ε m with
  | none => rw [e1] at e; cases e
  | some p =>
    obtain ⟨d1, m1⟩ := p
    rw [e1] at e
    simp only [Option.bind_some] at e
    cases d1 with
    | bl b1 =>
      refine tD.step re ok e1 fun v H1 p1 ok1 re1 r1 => ?_
      cases r1
      refine ⟨b1, rfl, ?_⟩
      cases b1 with
      | true =>
        rw [if_pos rfl]
        exact tD.step re1 ok1 e fun w H2 p2 ok2 _ r2 => q w H2 (p1.trans p2) ok2 r2
      | false =>
        rw [if_neg Bool.false_ne_true]
        simp at e
        obtain ⟨rfl, rfl⟩ := e
        exact q _ H1 p1 ok1 (.bl false)
    | _ => cases e
theorem d_or (ha : PE X a (tD fa)) (hb : PE X (.BoolOp .Or (b :: rest) pos) (tD fb)) : PE X (.BoolOp .Or (a :: b :: rest) pos) (tD (fOr fa fb)) := by
  refine PE.weak (pe_or ha hb) fun σ H Q ⟨μ, ε, m, k, m', re, ok, e, q⟩ => ?_
  unfold fOr at e
  cases e1 : fa ε m with
  | none => rw [e1] at e; cases e
  | some p =>
    obtain ⟨d1, m1⟩ := p
    rw [e1] at e
    simp only [Option.bind_some] at e
    cases d1 with
    | bl b1 =>
      refine tD.step re ok e1 fun v H1 p1 ok1 re1 r1 => ?_
      cases r1
      refine ⟨b1, rfl, ?_⟩
      cases b1 with
      | false =>
        rw [if_neg Bool.false_ne_true]
        exact tD.step re1 ok1 e fun w H2 p2 ok2 _ r2 => q w H2 (p1.trans p2) ok2 r2
      | true =>
        rw [if_pos rfl]
        simp at e
        obtain ⟨rfl, rfl⟩ := e
        exact q _ H1 p1 ok1 (.bl true)
    | _ => cases e
theorem d_not (ha : PE X a (tD fa)) : PE X (.UnaryOp .Not a pos) (tD (fNot fa)) := by
  refine PE.weak (pe_not ha) fun σ H Q ⟨μ, ε, m, k, m', re, ok, e, q⟩ => ?_
  unfold fNot at e
  cases e1 : fa ε m with
  | none => rw [e1] at e; cases e
  | some p =>
    obtain ⟨d1, m1⟩ := p
    rw [e1] at e
    simp only [Option.bind_some] at e
    cases d1 with
    | bl b1 =>
      simp at e
      obtain ⟨rfl, rfl⟩ := e
      refine tD.step re ok e1 fun v H1 p1 ok1 re1 r1 => ?_
      cases r1
      exact ⟨b1, rfl, q _ H1 p1 ok1 (.bl _)⟩
    | _ => cases e
theorem d_ifExp {t : FT} (hc : PT X c (tDT t)) (ha : PE X a (tD fa)) (hb : PE X b (tD fb)) : PE X (.IfExp c a b pos) (tD (fIf t fa fb)) := by
  refine PE.weak (pe_ifExp hc ha hb) fun σ H Q ⟨μ, ε, m, k, m', re, ok, e, q⟩ => ?_
  unfold fIf at e
  cases e1 : t ε m with
  | none => rw [e1] at e; cases e
  | some p =>
    obtain ⟨b1, m1⟩ := p
    rw [e1] at e
    simp only [Option.bind_some] at e
    refine tDT.step re ok e1 fun H1 p1 ok1 re1 => ?_
    cases b1 with
    | true =>
      rw [if_pos rfl] at e ⊢
      exact tD.step re1 ok1 e fun w H2 p2 ok2 _ r2 => q w H2 (p1.trans p2) ok2 r2
    | false =>
      rw [if_neg Bool.false_ne_true] at e ⊢
      exact tD.step re1 ok1 e fun w H2 p2 ok2 _ r2 => q w H2 (p1.trans p2) ok2 r2
/-! ### arguments, displays -/
def faNil : FA := fun _ m => some ([], m)
def faCons (f : F) (g : FA) : FA := fun ε m => (f ε m).bind fun p => (g ε p.2).map fun q => (p.1 :: q.1, q.2)
theorem da_nil : PA X [] (tDA faNil) := by
  refine PA.weak pa_nil fun σ H Q ⟨μ, ε, m, k, m', re, ok, e, q⟩ => ?_
  unfold faNil at e
  simp at e
  obtain ⟨rfl, rfl⟩ := e
  exact q [] H (Post.refl _ _) ok .nil
theorem da_cons {es : List Expr} {g : FA} (ha : PE X a (tD fa)) (hr : PA X es (tDA g)) (hs : starEach (a :: es) X.env = (false, eval a X.env) :: starEach es X.env := by rfl) : PA X (a :: es) (tDA (faCons fa g)) := by
  refine PA.weak (pa_cons ha hr hs) fun σ H Q ⟨μ, ε, m, k, m', re, ok, e, q⟩ => ?_
  unfold faCons at e
  cases e1 : fa ε m with
  | none => rw [e1] at e; cases e
  | some p =>
    obtain ⟨d1, m1⟩ := p
    rw [e1] at e
    simp only [Option.bind_some] at e
    cases e2 : g ε m1 with
    | none => rw [e2] at e; cases e
    | some p2 =>
      obtain ⟨ds, m2⟩ := p2
      rw [e2] at e
      simp at e
      obtain ⟨rfl, rfl⟩ := e
      refine tD.step re ok e1 fun v H1 p1 ok1 re1 r1 => ?_
      exact tDA.step re1 ok1 e2 fun vs H2 p2 ok2 _ r2 => q _ H2 (p1.trans p2) ok2 (.cons (r1.grow p2) r2)
def fTup (f : FA) : F := fun ε m => (f ε m).bind fun p => if p.1.length ≤ sizeLine then some (.tup p.1, p.2) else none
def fLst (f : FA) : F := fun ε m => (f ε m).bind fun p => if p.1.length ≤ sizeLine then some (.lst p.1, p.2) else none
theorem d_tup {es : List Expr} {x1} {g : FA} (h : PA X es (tDA g)) : PE X (.Tuple es x1 pos) (tD (fTup g)) := by
  refine PE.weak (pe_tup h) fun σ H Q ⟨μ, ε, m, k, m', re, ok, e, q⟩ => ?_
  unfold fTup at e
  cases e1 : g ε m with
  | none => rw [e1] at e; cases e
  | some p =>
    obtain ⟨ds, m1⟩ := p
    rw [e1] at e
    simp only [Option.bind_some] at e
    split at e
    · rename_i hl
      simp at e
      obtain ⟨rfl, rfl⟩ := e
      refine tDA.step re ok e1 fun vs H1 p1 ok1 re1 r1 => ⟨by rw [r1.length]; exact hl, fun a ha => ?_⟩
      exact q _ _ (p1.trans (post_new ha _)) (ok1.new ha _) (.tup upd_same (ok1.free ha) (r1.grow (post_new ha _)))
    · cases e
theorem d_lst {es : List Expr} {g : FA} (h : PA X es (tDA g)) : PE X (.List es pos) (tD (fLst g)) := by
  refine PE.weak (pe_lst h) fun σ H Q ⟨μ, ε, m, k, m', re, ok, e, q⟩ => ?_
  unfold fLst at e
  cases e1 : g ε m with
  | none => rw [e1] at e; cases e
  | some p =>
    obtain ⟨ds, m1⟩ := p
    rw [e1] at e
    simp only [Option.bind_some] at e
    split at e
    · rename_i hl
      simp at e
      obtain ⟨rfl, rfl⟩ := e
      refine tDA.step re ok e1 fun vs H1 p1 ok1 re1 r1 => ⟨by rw [r1.length]; exact hl, fun a ha => ?_⟩
      exact q _ _ (p1.trans (post_new ha _)) (ok1.new ha _) (.lst upd_same (ok1.free ha) (r1.grow (post_new ha _)))
    · cases e
/-! ### built-ins and defs called -/
abbrev GN := List D → M → Option D
def FitsN (r : List V → Hp → VK → Prop) (g : GN) : Prop := ∀ (μ : Mu) (H : Hp) (m : M) (vs : List V) (ds : List D) (d : D) (Q : VK), MOk μ H m → Reps μ H vs ds → g ds m = some d →
  (∀ v H', Post μ H μ H' → MOk μ H' m → Rep μ H' v d → Q v H') → r vs H Q
def fApp (g : GN) (fs : FA) : F := fun ε m => (fs ε m).bind fun p => (g p.1 p.2).map fun d => (d, p.2)
theorem d_appT {r : List V → Hp → VK → Prop} {g : GN} {fs : FA} (hr : FitsN r g) {σ : L2.St} {H : Hp} {Q : VK} (h : tD (fApp g fs) σ H Q) : tDA fs σ H fun vs H1 => r vs H1 Q := by
  obtain ⟨μ, ε, m, k, m', re, ok, e, q⟩ := h
  unfold fApp at e
  cases e1 : fs ε m with
  | none => rw [e1] at e; cases e
  | some p =>
    obtain ⟨ds, m1⟩ := p
    rw [e1] at e
    simp only [Option.bind_some] at e
    cases e2 : g ds m1 with
    | none => rw [e2] at e; cases e
    | some d =>
      rw [e2] at e
      simp at e
      obtain ⟨rfl, rfl⟩ := e
      exact tDA.step re ok e1 fun vs H1 p1 ok1 re1 r1 => hr μ H1 m1 vs ds d Q ok1 r1 e2 fun v H2 p2 ok2 r2 => q v H2 (p1.trans p2) ok2 r2
theorem FitsN.or {r r' : List V → Hp → VK → Prop} {g g' : GN} (h : FitsN r g) (h' : FitsN r' g') : FitsN (fun x H Q => r x H Q ∨ r' x H Q) (fun x m => (g x m).or (g' x m)) := by
  intro μ H m x dx d Q ok r1 e q
  cases e1 : g dx m with
  | some d1 =>
    simp only [e1, Option.some_or] at e
    exact .inl (h μ H m x dx d Q ok r1 (e1.trans e) q)
  | none =>
    simp only [e1, Option.none_or] at e
    exact .inr (h' μ H m x dx d Q ok r1 e q)
theorem d_callB {x : Str} {id : String} {r : List V → Hp → VK → Prop} {g : GN} {fs : FA} {es : List Expr} {p : Pos} (hc : CallR X (.builtin id) r) (hr : FitsN r g) (hg : Gl X x) (hm : X.mg x = none) (hv : bootBuiltins x = some (.builtin id)) (ha : PA X (a :: es) (tDA fs))
    (hn : x ≠ "__name__" := by decide) (hdb : (x == ("__debug__" : Str)) = false := by decide) (he : starEach (a :: es) X.env = (false, eval a X.env) :: starEach es X.env := by rfl) (hpl : (backTo pos (starEach es X.env)).any (·.1) = false := by rfl) : PE X (.Call (.Name x p) (a :: es) [] pos) (tD (fApp g fs)) :=
  PE.weak (pe_callB hc hg hm hv ha hn hdb he hpl) fun _ _ _ h => d_appT hr h
theorem d_callTy {x : Str} {T : String} {r : List V → Hp → VK → Prop} {g : GN} {fs : FA} {es : List Expr} {p : Pos} (hc : CallR X (.type T) r) (hr : FitsN r g) (hg : Gl X x) (hm : X.mg x = none) (hv : bootBuiltins x = some (.type T)) (ha : PA X (a :: es) (tDA fs))
    (hn : x ≠ "__name__" := by decide) (hdb : (x == ("__debug__" : Str)) = false := by decide) (he : starEach (a :: es) X.env = (false, eval a X.env) :: starEach es X.env := by rfl) (hpl : (backTo pos (starEach es X.env)).any (·.1) = false := by rfl) : PE X (.Call (.Name x p) (a :: es) [] pos) (tD (fApp g fs)) :=
  PE.weak (pe_callTy hc hg hm hv ha hn hdb he hpl) fun _ _ _ h => d_appT hr h

/-- a def as a function of data: the values of its arguments and what the changeable lists hold -/
abbrev FD := List D → M → Option (D × M)
/-- the promise of a def: it does what its function says -/
def spD (g : FD) : Sp := fun vs H Q _ => ∃ μ ds m d m', Reps μ H vs ds ∧ MOk μ H m ∧ g ds m = some (d, m') ∧ ∀ v H', Post μ H μ H' → MOk μ H' m' → Rep μ H' v d → Q v H'
def fCall (g : FD) (fs : FA) : F := fun ε m => (fs ε m).bind fun p => g p.1 p.2
theorem d_call {k : Nat} {f : Addr} {fd : FuncData} {ps : List Str} {x : Str} {p : Pos} {g : FD} {es : List Expr} {fs : FA} (G : FnOk X.prog X.w X.K X.mg X.base CX0 k f fd ps (spD g)) (hr : Room k X.A) (hg : Gl X x) (hm : X.mg x = some (.ref f)) (hk : PySem.W.keepIn X.K (.ref f) = true)
    (hb : Binds X.K fd ps []) (ha : PA X (a :: es) (tDA fs)) (hdb : (x == ("__debug__" : Str)) = false := by decide) (he : starEach (a :: es) X.env = (false, eval a X.env) :: starEach es X.env := by rfl) (hpl : (backTo pos (starEach es X.env)).any (·.1) = false := by rfl) : PE X (.Call (.Name x p) (a :: es) [] pos) (tD (fCall g fs)) := by
  refine PE.weak (pe_call G hr hg hm hk hb .nil pass0 ha hdb he hpl) fun σ H Q ⟨μ, ε, m, d, m', re, ok, e, q⟩ => ?_
  unfold fCall at e
  cases e1 : fs ε m with
  | none => rw [e1] at e; cases e
  | some p =>
    obtain ⟨ds, m1⟩ := p
    rw [e1] at e
    simp only [Option.bind_some] at e
    refine tDA.step re ok e1 fun vs H1 p1 ok1 re1 r1 => ?_
    refine ⟨μ, ds, m1, d, m', by rw [List.append_nil]; exact r1, ok1, e, fun v H2 p2 ok2 r2 => q v H2 (p1.trans p2) ok2 r2⟩
end
end DL
end
section
set_option Elab.async false
set_option linter.all false
set_option maxRecDepth 100000
set_option maxHeartbeats 2000000
namespace DL
open PySem PySem.Spec PyProof.Rows L2
open Sem (wp)
section
variable {prog : Program} {w : World} {A : Around} {E : Value → Shared → Prop} {h : Heap} {g : Array GenState} {d : Drawn} {t : Nat} {os : OsState} {n : Int} {u : Tok} {x : Str} {b : Bool} {a : Addr} {o : Obj}
theorem cls_int {Q : Value → Shared → Prop} (hq : Q (.type "int") ⟨h, g, d, t + 1, os⟩) : wpAny (model prog w) A (getAttr (.int n u) "__class__" true) Q E ⟨h, g, d, t, os⟩ := by
  unfold getAttr
  have hT : (⟨h, g, d, t, os⟩ : Shared).TypeIs (.int n u) "int" := rfl
  have f2 := F.slot_int_getattribute.lookup
  have f3 := F.slot_int_getattribute.bind (.int n u)
  repeat (any_goals (first | assumption | wp_step))
  refine class_call_int ?_
  repeat (any_goals (first | assumption | wp_step))
theorem cls_bool {Q : Value → Shared → Prop} (hq : Q (.type "bool") ⟨h, g, d, t + 1, os⟩) : wpAny (model prog w) A (getAttr (.bool b) "__class__" true) Q E ⟨h, g, d, t, os⟩ := by
  unfold getAttr
  have hT : (⟨h, g, d, t, os⟩ : Shared).TypeIs (.bool b) "bool" := rfl
  have f2 := F.slot_bool_getattribute.lookup
  have f3 := F.slot_bool_getattribute.bind (.bool b)
  repeat (any_goals (first | assumption | wp_step))
  refine class_call_bool ?_
  repeat (any_goals (first | assumption | wp_step))
theorem cls_str {Q : Value → Shared → Prop} (hq : Q (.type "str") ⟨h, g, d, t + 1, os⟩) : wpAny (model prog w) A (getAttr (.str x u) "__class__" true) Q E ⟨h, g, d, t, os⟩ := by
  unfold getAttr
  have hT : (⟨h, g, d, t, os⟩ : Shared).TypeIs (.str x u) "str" := rfl
  have f2 := F.slot_str_getattribute.lookup
  have f3 := F.slot_str_getattribute.bind (.str x u)
  repeat (any_goals (first | assumption | wp_step))
  refine class_call_str ?_
  repeat (any_goals (first | assumption | wp_step))
theorem cls_tuple {Q : Value → Shared → Prop} (hx : h.get? a = some o) (hc : o.cls = .type "tuple") (hq : Q (.type "tuple") ⟨h, g, d, t + 1, os⟩) : wpAny (model prog w) A (getAttr (.ref a) "__class__" true) Q E ⟨h, g, d, t, os⟩ := by
  unfold getAttr
  have hT : (⟨h, g, d, t + 1, os⟩ : Shared).TypeIs (.ref a) "tuple" := ⟨_, hx, hc⟩
  have f2 := F.slot_tuple_getattribute.lookup
  have f3 := F.slot_tuple_getattribute.bind (.ref a)
  repeat (any_goals (first | assumption | wp_step))
  refine class_call_tuple hx hc ?_
  repeat (any_goals (first | assumption | wp_step))
theorem cls_list {Q : Value → Shared → Prop} (hx : h.get? a = some o) (hc : o.cls = .type "list") (hq : Q (.type "list") ⟨h, g, d, t + 1, os⟩) : wpAny (model prog w) A (getAttr (.ref a) "__class__" true) Q E ⟨h, g, d, t, os⟩ := by
  unfold getAttr
  have hT : (⟨h, g, d, t + 1, os⟩ : Shared).TypeIs (.ref a) "list" := ⟨_, hx, hc⟩
  have f2 := F.slot_list_getattribute.lookup
  have f3 := F.slot_list_getattribute.bind (.ref a)
  repeat (any_goals (first | assumption | wp_step))
  refine class_call_list hx hc ?_
  repeat (any_goals (first | assumption | wp_step))
end
/-- the class's name -/
def tyN : D → String
  | .non => "NoneType" | .bl _ => "bool" | .int _ => "int" | .str _ => "str" | .tup _ => "tuple" | .lst _ => "list" | .mr _ => "list"
abbrev G1 := D → M → Option D
def fUn (g : G1) (fa : F) : F := fun ε m => (fa ε m).bind fun p => (g p.1 p.2).map fun d => (d, p.2)
theorem fUn_some {g : G1} {fa : F} {ε : Ev} {m m' : M} {d : D} (e : fUn g fa ε m = some (d, m')) : ∃ x, fa ε m = some (x, m') ∧ g x m' = some d := by
  unfold fUn at e
  cases e1 : fa ε m with
  | none => rw [e1] at e; cases e
  | some p =>
    obtain ⟨x, m1⟩ := p
    rw [e1] at e
    simp only [Option.bind_some] at e
    cases e2 : g x m1 with
    | none => rw [e2] at e; cases e
    | some d' =>
      rw [e2] at e
      simp at e
      obtain ⟨rfl, rfl⟩ := e
      exact ⟨x, rfl, e2⟩
def clsG : G1 := fun d _ => match d with
  | .non => none
  | d => some (.str (Str.ofString (tyN d)))
section
variable {X : Cx} {a : Expr} {fa : F} {pos p1 : Pos}
abbrev tys : List String := ["int", "str", "tuple", "list", "bool"]
theorem t_int : "int" ∈ tys := by decide +kernel
theorem t_str : "str" ∈ tys := by decide +kernel
theorem t_tuple : "tuple" ∈ tys := by decide +kernel
theorem t_list : "list" ∈ tys := by decide +kernel
theorem t_bool : "bool" ∈ tys := by decide +kernel
theorem name_all : ∀ T ∈ tys, PySem.W.kitMeta T = true ∧ Manifest.isStub T = false ∧ PySem.W.ktynFast T = T ∧ (Str.ofString T).length ≤ sizeLine := by decide +kernel
theorem find_int (K : PySem.W.Frag) : PySem.W.findCls K (.type "int") (.type "type") "__name__" = some (.get (.builtin "getset_descriptor.__get__") (.builtin "type.__name__") (.type "int") (.type "type")) := rfl
theorem find_str (K : PySem.W.Frag) : PySem.W.findCls K (.type "str") (.type "type") "__name__" = some (.get (.builtin "getset_descriptor.__get__") (.builtin "type.__name__") (.type "str") (.type "type")) := rfl
theorem find_tuple (K : PySem.W.Frag) : PySem.W.findCls K (.type "tuple") (.type "type") "__name__" = some (.get (.builtin "getset_descriptor.__get__") (.builtin "type.__name__") (.type "tuple") (.type "type")) := rfl
theorem find_list (K : PySem.W.Frag) : PySem.W.findCls K (.type "list") (.type "type") "__name__" = some (.get (.builtin "getset_descriptor.__get__") (.builtin "type.__name__") (.type "list") (.type "type")) := rfl
theorem find_bool (K : PySem.W.Frag) : PySem.W.findCls K (.type "bool") (.type "type") "__name__" = some (.get (.builtin "getset_descriptor.__get__") (.builtin "type.__name__") (.type "bool") (.type "type")) := rfl
theorem find_ty (K : PySem.W.Frag) {T : String} (h : T ∈ tys) : PySem.W.findCls K (.type T) (.type "type") "__name__" = some (.get (.builtin "getset_descriptor.__get__") (.builtin "type.__name__") (.type T) (.type "type")) := by
  simp only [tys, List.mem_cons, List.not_mem_nil, or_false] at h
  rcases h with rfl | rfl | rfl | rfl | rfl
  · exact find_int K
  · exact find_str K
  · exact find_tuple K
  · exact find_list K
  · exact find_bool K
theorem name_of {pins : List (Addr × Obj)} {σ : L2.St} {H : Hp} {s : Shared} {E : Value → Shared → Prop} {T : String} {Q : Value → Shared → Prop} (I : Inv X pins σ H s) (hT : T ∈ tys)
    (h : ∀ tk u, Q (.str (Str.ofString T) tk) { s with toks := u }) : wpAny (model X.prog X.w) X.A (getAttr (.type T) "__name__" true) Q E s := by
  obtain ⟨m, F⟩ := I.fr
  obtain ⟨h1, h2, h3, h4⟩ := name_all T hT
  exact PySem.W.ktyn_attr F I.mod.kin h1 h2 (find_ty X.K hT) h3 h4 h
theorem name_fin {pins : List (Addr × Obj)} {σ : L2.St} {H : Hp} {s : Shared} {T : String} {Q : VK} (I : Inv X pins σ H s) (hT : T ∈ tys) (q : Q (.str (Str.ofString T)) H) :
    wpAny (model X.prog X.w) X.A (getAttr (.type T) "__name__" true) (EP X pins σ Q) X.xe s := name_of I hT fun tk k => ⟨.str _, H, I.tok k, ⟨_, rfl⟩, q⟩
end
end DL
end
section
set_option Elab.async false
set_option linter.all false
set_option maxRecDepth 100000
set_option maxHeartbeats 2000000
namespace DL
open PySem PySem.Spec PyProof.Rows L2
section
variable {X : Cx} {a : Expr} {fa : F} {pos p1 : Pos}
theorem d_cls (ha : PE X a (tD fa)) (hb : attributeBase a "__class__" X.env (eval a X.env) = eval a X.env := by rfl)
    (hb2 : attributeBase (.Attribute a "__class__" p1) "__name__" X.env (eval (.Attribute a "__class__" p1) X.env) = eval (.Attribute a "__class__" p1) X.env := by rfl) :
    PE X (.Attribute (.Attribute a "__class__" p1) "__name__" pos) (tD (fUn clsG fa)) := by
  refine ⟨fun pins s σ H Q I ⟨μ, ε, m, d, m', re, ok, e, q⟩ => ?_⟩
  obtain ⟨x, e1, e2⟩ := fUn_some e
  refine attr_of hb2 (attr_of hb ?_)
  refine thn (ha.run pins s σ H (fun v H1 => Post μ H μ H1 ∧ MOk μ H1 m' ∧ Rep μ H1 v x) I ⟨μ, ε, m, x, m', re, ok, e1, fun v H1 p1 ok1 r1 => ⟨p1, ok1, r1⟩⟩) fun v s1 ⟨y, H1, I1, ry, p1, ok1, r1⟩ => ?_
  have fin : ∀ T : String, d = .str (Str.ofString T) → Q (.str (Str.ofString T)) H1 := fun T hd => q _ H1 p1 ok1 (by rw [hd]; exact .str _)
  clear e e1 q
  obtain ⟨hh, gg, dd, tt, oo⟩ := s1
  have I2 := I1.tok (tt + 1)
  cases r1 with
  | non => cases e2
  | bl b =>
    simp only [clsG, tyN, Option.some.injEq] at e2
    cases ry
    exact cls_bool (@name_fin X pins σ H1 _ "bool" Q I2 t_bool (fin "bool" e2.symm))
  | int i =>
    simp only [clsG, tyN, Option.some.injEq] at e2
    obtain ⟨u, rfl⟩ := ry
    exact cls_int (@name_fin X pins σ H1 _ "int" Q I2 t_int (fin "int" e2.symm))
  | str z =>
    simp only [clsG, tyN, Option.some.injEq] at e2
    obtain ⟨u, rfl⟩ := ry
    exact cls_str (@name_fin X pins σ H1 _ "str" Q I2 t_str (fin "str" e2.symm))
  | @tup a vs ds h hn rs =>
    simp only [clsG, tyN, Option.some.injEq] at e2
    cases ry
    obtain ⟨_, its, _, o, h1, h2, _⟩ := (show ObjOk X.prog X.w H1 hh a (.tup vs) from I1.hok a _ h)
    exact cls_tuple h1 h2 (@name_fin X pins σ H1 _ "tuple" Q I2 t_tuple (fin "tuple" e2.symm))
  | @lst a vs ds h hn rs =>
    simp only [clsG, tyN, Option.some.injEq] at e2
    cases ry
    obtain ⟨_, its, n, _, h1⟩ := (show ObjOk X.prog X.w H1 hh a (.lst vs) from I1.hok a _ h)
    exact cls_list h1 rfl (@name_fin X pins σ H1 _ "list" Q I2 t_list (fin "list" e2.symm))
  | @mr a k h =>
    simp only [clsG, tyN, Option.some.injEq] at e2
    cases ry
    obtain ⟨vs, h⟩ := ok1.has (List.mem_of_getElem? h)
    obtain ⟨_, its, n, _, h1⟩ := (show ObjOk X.prog X.w H1 hh a (.lst vs) from I1.hok a _ h)
    exact cls_list h1 rfl (@name_fin X pins σ H1 _ "list" Q I2 t_list (fin "list" e2.symm))
/-! ### isinstance -/
def isiB (T : String) : D → Bool
  | .non => false
  | .bl _ => T == "bool" || T == "int"
  | .int _ => T == "int"
  | .str _ => T == "str"
  | .tup _ => T == "tuple"
  | .lst _ => T == "list"
  | .mr _ => T == "list"
theorem kit_all : ∀ T ∈ tys, kitB "NoneType" T = some false ∧ kitB "bool" T = some (T == "bool" || T == "int") ∧ kitB "int" T = some (T == "int") ∧ kitB "str" T = some (T == "str") ∧ kitB "tuple" T = some (T == "tuple") ∧ kitB "list" T = some (T == "list") := by decide +kernel
theorem ty_rep {K : PySem.W.Frag} {μ : Mu} {H : Hp} {m : M} {v : V} {d : D} (ok : MOk μ H m) (r : Rep μ H v d) : TyX K H v (.type (tyN d)) := by
  cases r with
  | non => exact .base .non
  | bl b => exact .base (.bl b)
  | int i => exact .base (.int i)
  | str s => exact .base (.str s)
  | tup h _ _ => exact .base (.tup h)
  | lst h _ _ => exact .base (.lst h)
  | mr h => obtain ⟨vs, h⟩ := ok.has (List.mem_of_getElem? h); exact .base (.lst h)
theorem kit_rep {K : PySem.W.Frag} {T : String} (hT : T ∈ tys) (d : D) : PySem.W.kitOne K (.type (tyN d)) (.type T) = some (isiB T d) := by
  obtain ⟨h1, h2, h3, h4, h5, h6⟩ := kit_all T hT
  cases d with
  | non => exact kit_ty h1
  | bl _ => exact kit_ty h2
  | int _ => exact kit_ty h3
  | str _ => exact kit_ty h4
  | tup _ => exact kit_ty h5
  | lst _ => exact kit_ty h6
  | mr _ => exact kit_ty h6
def isiG (T : String) : G1 := fun d _ => some (.bl (isiB T d))
def isiG2 (T U : String) : G1 := fun d _ => some (.bl (isiB T d || isiB U d))
theorem d_isi {T : String} {x : Str} {p p2 : Pos} (hT : T ∈ tys) (hg : Gl X "isinstance") (hm : X.mg "isinstance" = none) (ha : PE X a (tD fa)) (hgT : Gl X x) (hmT : X.mg x = none) (hvT : bootBuiltins x = some (.type T))
    (hn : x ≠ "__name__" := by decide) (hdb : (x == ("__debug__" : Str)) = false := by decide)
    (he : starEach [a, .Name x p2] X.env = (false, eval a X.env) :: starEach [.Name x p2] X.env := by rfl) (hpl : (backTo pos (starEach [.Name x p2] X.env)).any (·.1) = false := by rfl) (hs2 : starEach [.Name x p2] X.env = (false, eval (.Name x p2) X.env) :: starEach [] X.env := by rfl) :
    PE X (.Call (.Name "isinstance" p) [a, .Name x p2] [] pos) (tD (fUn (isiG T) fa)) := by
  refine PE.weak (pe_callB call_isi hg hm (by decide +kernel) (pa_cons ha (pa_cons (pe_bltn (v := .ty T) hgT hmT hvT rfl hn hdb) pa_nil hs2) he) (by decide +kernel) (by decide +kernel) he hpl) fun σ H Q ⟨μ, ε, m, d, m', re, ok, e, q⟩ => ?_
  obtain ⟨x, e1, e2⟩ := fUn_some e
  refine tD.step re ok e1 fun v H1 p1 ok1 re1 r1 => ?_
  refine ⟨v, .ty T, _, _, _, rfl, .ty T, ty_rep ok1 r1, kit_rep hT x, ?_⟩
  rw [← Option.some.inj e2] at q
  exact q _ H1 p1 ok1 (.bl _)
theorem d_isi2 {T U : String} {x y : Str} {p p2 p3 : Pos} {x1} {pt : Pos} (hT : T ∈ tys) (hU : U ∈ tys) (hg : Gl X "isinstance") (hm : X.mg "isinstance" = none) (ha : PE X a (tD fa)) (hgT : Gl X x) (hmT : X.mg x = none) (hvT : bootBuiltins x = some (.type T))
    (hgU : Gl X y) (hmU : X.mg y = none) (hvU : bootBuiltins y = some (.type U))
    (hn : x ≠ "__name__" := by decide) (hdb : (x == ("__debug__" : Str)) = false := by decide) (hn2 : y ≠ "__name__" := by decide) (hdb2 : (y == ("__debug__" : Str)) = false := by decide)
    (he : starEach [a, .Tuple [.Name x p2, .Name y p3] x1 pt] X.env = (false, eval a X.env) :: starEach [.Tuple [.Name x p2, .Name y p3] x1 pt] X.env := by rfl) (hpl : (backTo pos (starEach [.Tuple [.Name x p2, .Name y p3] x1 pt] X.env)).any (·.1) = false := by rfl) :
    PE X (.Call (.Name "isinstance" p) [a, .Tuple [.Name x p2, .Name y p3] x1 pt] [] pos) (tD (fUn (isiG2 T U) fa)) := by
  refine PE.weak (pe_callB call_isiT hg hm (by decide +kernel) (pa_cons ha (pa_cons (pe_tup (pa_cons (pe_bltn (v := .ty T) hgT hmT hvT rfl hn hdb) (pa_cons (pe_bltn (v := .ty U) hgU hmU hvU rfl hn2 hdb2) pa_nil))) pa_nil) he) (by decide +kernel) (by decide +kernel) he hpl) fun σ H Q ⟨μ, ε, m, d, m', re, ok, e, q⟩ => ?_
  obtain ⟨x, e1, e2⟩ := fUn_some e
  refine tD.step re ok e1 fun v H1 p1 ok1 re1 r1 => ?_
  refine ⟨by show 2 ≤ sizeLine; decide, fun t ht => ?_⟩
  have r2 := r1.grow (post_new ht (.tup [.ty T, .ty U]))
  have ok2 := ok1.new ht (.tup [.ty T, .ty U])
  refine ⟨v, t, [.ty T, .ty U], _, [.type T, .type U], _, rfl, upd_same, .cons (.ty T) (.cons (.ty U) .nil), ty_rep ok2 r2, kitAny_cons (b := isiB T x) (r := isiB T x || isiB U x) (kit_rep hT x) (fun hb => ?_) (fun hb => by rw [hb]; rfl), ?_⟩
  · rw [hb, Bool.false_or]
    refine kitAny_cons (kit_rep hU x) (fun hb => by rw [hb]; rfl) fun hb => hb
  · rw [← Option.some.inj e2] at q
    exact q _ _ (p1.trans (post_new ht _)) ok2 (.bl _)
end
end DL
end
section
set_option Elab.async false
set_option linter.all false
set_option maxRecDepth 100000
namespace DL
open PySem PySem.Spec PyProof.Rows L2
/-! ### operators by data -/
def addG : G2 := fun x y m => match x, y with
  | .int i, .int j => some (.int (i + j))
  | .str a, .str b => if a.length + b.length ≤ sizeLine then some (.str (a ++ b)) else none
  | .tup a, .tup b => if a.length + b.length ≤ sizeLine then some (.tup (a ++ b)) else none
  | .lst a, .lst b => if a.length + b.length ≤ sizeLine then some (.lst (a ++ b)) else none
  | _, _ => none
def subG : G2 := fun x y _ => match x, y with | .int i, .int j => some (.int (i - j)) | _, _ => none
def repS (a : Str) (k : Nat) : Str := ⟨(List.replicate k a.cps).foldl (· ++ ·) #[]⟩
def mulG : G2 := fun x y _ => match x, y with
  | .int i, .int j => if (-(2 ^ 64) < i ∧ i < 2 ^ 64) ∨ (-(2 ^ 64) < j ∧ j < 2 ^ 64) then some (.int (i * j)) else none
  | .str a, .int k => if 0 ≤ k ∧ k ≤ 1000 ∧ a.length ≤ 1000 then some (.str (repS a k.toNat)) else none
  | .tup a, .int k => if a ≠ [] ∧ 2 ≤ k ∧ k ≤ 1000 ∧ a.length ≤ 1000 then some (.tup (List.replicate k.toNat a).flatten) else none
  | .lst a, .int k => if 0 ≤ k ∧ k ≤ 1000 ∧ a.length ≤ 1000 then some (.lst (List.replicate k.toNat a).flatten) else none
  | _, _ => none
def modG : G2 := fun x y _ => match x, y with | .int i, .int j => if j ≠ 0 then some (.int (i.fmod j)) else none | _, _ => none
def fdivG : G2 := fun x y _ => match x, y with | .int i, .int j => if j ≠ 0 ∧ j.natAbs < 1073741824 then some (.int (i.fdiv j)) else none | _, _ => none
def powG : G2 := fun x y _ => match x, y with | .int i, .int j => if 0 ≤ j ∧ j ≤ 1000000 ∧ i.natAbs < 2 ^ 64 then some (.int (i ^ j.toNat)) else none | _, _ => none

theorem sz1000 : 1000 * 1000 ≤ sizeLine := by decide
theorem ap_nil {μ : Mu} {H : Hp} {vs : List V} {ds : List D} (r : Reps μ H vs ds) : vs = [] ↔ ds = [] := by cases r <;> simp
section
variable {X : Cx}
theorem op_mul_str : OpR X (binaryOp .Mult) (fun x y H Q => ∃ a k, x = V.str a ∧ y = V.int k ∧ (0 ≤ k ∧ k ≤ 1000 ∧ a.length ≤ 1000) ∧ Q (.str (repS a k.toNat)) H) := by
  intro pins s σ H x y v u Q I rx ry ⟨a, k, h1, h2, ⟨h3, h4, h5⟩, q⟩
  subst h1 h2
  obtain ⟨t, rfl⟩ := rx
  obtain ⟨t', rfl⟩ := ry
  have hs : a.length * k.toNat ≤ 1000 * 1000 := Nat.mul_le_mul h5 (by omega)
  have e2 : (Str.empty : Str) = repS a 0 := rfl
  refine PySem.P.mul_str ?_ ?_ ?_ ?_
  · have h6 : ¬ k < -(2 ^ 63) := by omega
    have h7 : ¬ k ≥ 2 ^ 63 := by omega
    rw [decide_eq_false h6, decide_eq_false h7]; rfl
  · intro h6 _ h8
    have h9 : (2 ^ 63 - 1) / k ≥ (2 ^ 63 - 1) / 1000 := by
      refine Int.le_ediv_of_mul_le (by omega) ?_
      have : (2 ^ 63 - 1) / 1000 * k ≤ (2 ^ 63 - 1) / 1000 * 1000 := Int.mul_le_mul_of_nonneg_left h4 (by decide)
      have h10 : (2 ^ 63 - 1 : Int) / 1000 * 1000 ≤ 2 ^ 63 - 1 := by decide
      omega
    have h10 : ((2 ^ 63 - 1 : Int)) / 1000 > 1000 := by decide
    omega
  · intro _ _
    unfold Builtin.Str.tooLong
    have := sz1000
    simp
    omega
  · by_cases h6 : k < 1
    · rw [if_pos h6]
      have e : k.toNat = 0 := by omega
      rw [e] at q
      exact ⟨by decide, .str _, H, I.tok _, ⟨_, rfl⟩, q⟩
    · rw [if_neg h6]
      by_cases h7 : (k == 1 || a.length == 0) = true
      · rw [if_pos h7]
        have e : repS a k.toNat = a := by
          rcases (Bool.or_eq_true _ _).mp h7 with z | z
          · have z1 : k = 1 := by simpa using z
            subst z1
            unfold repS
            show Str.mk ([a.cps].foldl (· ++ ·) #[]) = a
            simp
          · have z1 : a.cps = #[] := by
              have : a.cps.size = 0 := by simpa [Str.length] using z
              exact Array.eq_empty_of_size_eq_zero this
            unfold repS
            have : ∀ n, (List.replicate n a.cps).foldl (· ++ ·) #[] = #[] := by
              intro n
              rw [z1]
              induction n with
              | zero => rfl
              | succ n ih => rw [List.replicate_succ, List.foldl_cons]; simpa using ih
            rw [this]
            cases a
            simp at z1
            rw [z1]
        rw [e] at q
        exact ⟨.str _, H, I, ⟨_, rfl⟩, q⟩
      · rw [if_neg h7]
        refine ⟨?_, .str _, H, I.tok _, ⟨_, rfl⟩, q⟩
        have e : (⟨(List.replicate k.toNat a.cps).foldl (· ++ ·) #[]⟩ : Str).length = a.length * k.toNat := by
          have : ∀ (n : Nat) (acc : Array Nat), ((List.replicate n a.cps).foldl (· ++ ·) acc).size = acc.size + a.length * n := by
            intro n
            induction n with
            | zero => intro acc; simp
            | succ n ih =>
              intro acc
              rw [List.replicate_succ, List.foldl_cons, ih, Array.size_append, Nat.mul_succ]
              unfold Str.length
              omega
          show ((List.replicate k.toNat a.cps).foldl (· ++ ·) #[]).size = _
          rw [this]
          simp
        have := sz1000
        omega
variable {K : PySem.W.Frag}
theorem fits_add : Fits2 (fun x y H Q => rI0 (fun i j => V.int (i + j)) x y H Q ∨ ((∃ i j, x = V.str i ∧ y = V.str j ∧ i.length + j.length ≤ sizeLine ∧ Q (.str (i ++ j)) H) ∨ (rCatA K x y H Q ∨ rCat x y H Q))) addG := by
  intro μ H m x y dx dy d Q ok r1 r2 e q
  cases r1 with
  | int i =>
    cases r2 with
    | int j =>
      have e : some (D.int (i + j)) = some d := e
      cases e
      exact .inl ⟨i, j, rfl, rfl, q _ H (Post.refl _ _) ok (.int _)⟩
    | _ => cases e
  | str a =>
    cases r2 with
    | str b =>
      have e : (if a.length + b.length ≤ sizeLine then some (D.str (a ++ b)) else none) = some d := e
      split at e
      · rename_i hl
        cases e
        exact .inr (.inl ⟨a, b, rfl, rfl, hl, q _ H (Post.refl _ _) ok (.str _)⟩)
      · cases e
    | _ => cases e
  | @tup a vs ds h hn rs =>
    cases r2 with
    | @tup b ws es h' hn' rs' =>
      have e : (if ds.length + es.length ≤ sizeLine then some (D.tup (ds ++ es)) else none) = some d := e
      split at e
      · rename_i hl
        cases e
        refine .inr (.inr (.inl ⟨a, b, vs, ws, rfl, rfl, SqT.of h, SqT.of h', by rw [rs.length, rs'.length]; exact hl, fun z => ?_, fun z z' => ?_, fun z z' p hp => ?_⟩))
        · rw [(ap_nil rs).mp z, List.nil_append] at q
          exact q _ H (Post.refl _ _) ok (.tup h' hn' rs')
        · rw [(ap_nil rs').mp z', List.append_nil] at q
          exact q _ H (Post.refl _ _) ok (.tup h hn rs)
        · exact q _ _ (post_new hp _) (ok.new hp _) (.tup upd_same (ok.free hp) ((rs.append rs').grow (post_new hp _)))
      · cases e
    | _ => cases e
  | @lst a vs ds h hn rs =>
    cases r2 with
    | @lst b ws es h' hn' rs' =>
      have e : (if ds.length + es.length ≤ sizeLine then some (D.lst (ds ++ es)) else none) = some d := e
      split at e
      · rename_i hl
        cases e
        refine .inr (.inr (.inr ⟨a, b, vs, ws, rfl, rfl, h, h', by rw [rs.length, rs'.length]; exact hl, fun p hp => ?_⟩))
        exact q _ _ (post_new hp _) (ok.new hp _) (.lst upd_same (ok.free hp) ((rs.append rs').grow (post_new hp _)))
      · cases e
    | _ => cases e
  | _ => cases e
theorem op_addD : OpR X (binaryOp .Add) (fun x y H Q => rI0 (fun i j => V.int (i + j)) x y H Q ∨ ((∃ i j, x = V.str i ∧ y = V.str j ∧ i.length + j.length ≤ sizeLine ∧ Q (.str (i ++ j)) H) ∨ (rCatA X.K x y H Q ∨ rCat x y H Q))) :=
  op_add.or (op_add_str.or (op_catA.or op_cat))
theorem fits_mul : Fits2 (fun x y H Q => rI CMul (fun i j => V.int (i * j)) x y H Q ∨ ((∃ a k, x = V.str a ∧ y = V.int k ∧ (0 ≤ k ∧ k ≤ 1000 ∧ a.length ≤ 1000) ∧ Q (.str (repS a k.toNat)) H) ∨ (rRepT K x y H Q ∨ rRep x y H Q))) mulG := by
  intro μ H m x y dx dy d Q ok r1 r2 e q
  cases r1 with
  | int i =>
    cases r2 with
    | int j =>
      have e : (if (-(2 ^ 64) < i ∧ i < 2 ^ 64) ∨ (-(2 ^ 64) < j ∧ j < 2 ^ 64) then some (D.int (i * j)) else none) = some d := e
      split at e
      · rename_i hl
        cases e
        exact .inl ⟨i, j, rfl, rfl, hl, q _ H (Post.refl _ _) ok (.int _)⟩
      · cases e
    | _ => cases e
  | str a =>
    cases r2 with
    | int k =>
      have e : (if 0 ≤ k ∧ k ≤ 1000 ∧ a.length ≤ 1000 then some (D.str (repS a k.toNat)) else none) = some d := e
      split at e
      · rename_i hl
        cases e
        exact .inr (.inl ⟨a, k, rfl, rfl, hl, q _ H (Post.refl _ _) ok (.str _)⟩)
      · cases e
    | _ => cases e
  | @tup a vs ds h hn rs =>
    cases r2 with
    | int k =>
      have e : (if ds ≠ [] ∧ 2 ≤ k ∧ k ≤ 1000 ∧ ds.length ≤ 1000 then some (D.tup (List.replicate k.toNat ds).flatten) else none) = some d := e
      split at e
      · rename_i hl
        cases e
        refine .inr (.inr (.inl ⟨a, k, vs, rfl, rfl, SqT.of h, fun z => hl.1 ((ap_nil rs).mp z), hl.2.1, hl.2.2.1, by rw [rs.length]; exact hl.2.2.2, fun p hp => ?_⟩))
        exact q _ _ (post_new hp _) (ok.new hp _) (.tup upd_same (ok.free hp) ((rs.rep _).grow (post_new hp _)))
      · cases e
    | _ => cases e
  | @lst a vs ds h hn rs =>
    cases r2 with
    | int k =>
      have e : (if 0 ≤ k ∧ k ≤ 1000 ∧ ds.length ≤ 1000 then some (D.lst (List.replicate k.toNat ds).flatten) else none) = some d := e
      split at e
      · rename_i hl
        cases e
        refine .inr (.inr (.inr ⟨a, k, vs, rfl, rfl, h, by omega, by omega, ?_, fun p hp => ?_⟩))
        · rw [rs.length]
          have : ds.length * k.toNat ≤ 1000 * 1000 := Nat.mul_le_mul hl.2.2 (by omega)
          exact Nat.le_trans this sz1000
        · exact q _ _ (post_new hp _) (ok.new hp _) (.lst upd_same (ok.free hp) ((rs.rep _).grow (post_new hp _)))
      · cases e
    | _ => cases e
  | _ => cases e
theorem op_mulD : OpR X (binaryOp .Mult) (fun x y H Q => rI CMul (fun i j => V.int (i * j)) x y H Q ∨ ((∃ a k, x = V.str a ∧ y = V.int k ∧ (0 ≤ k ∧ k ≤ 1000 ∧ a.length ≤ 1000) ∧ Q (.str (repS a k.toNat)) H) ∨ (rRepT X.K x y H Q ∨ rRep x y H Q))) :=
  op_mul.or (op_mul_str.or (op_repT.or op_rep))
theorem fits_sub : Fits2 (rI0 fun i j => .int (i - j)) subG := by
  intro μ H m x y dx dy d Q ok r1 r2 e q
  cases r1 with
  | int i =>
    cases r2 with
    | int j => cases (show some (D.int (i - j)) = some d from e); exact ⟨i, j, rfl, rfl, q _ H (Post.refl _ _) ok (.int _)⟩
    | _ => cases e
  | _ => cases e
theorem fits_mod : Fits2 (rI (fun _ j => j ≠ 0) fun i j => .int (i.fmod j)) modG := by
  intro μ H m x y dx dy d Q ok r1 r2 e q
  cases r1 with
  | int i =>
    cases r2 with
    | int j =>
      have e : (if j ≠ 0 then some (D.int (i.fmod j)) else none) = some d := e
      split at e
      · rename_i hl; cases e; exact ⟨i, j, rfl, rfl, hl, q _ H (Post.refl _ _) ok (.int _)⟩
      · cases e
    | _ => cases e
  | _ => cases e
theorem fits_fdiv : Fits2 (rI CDivN fun i j => .int (i.fdiv j)) fdivG := by
  intro μ H m x y dx dy d Q ok r1 r2 e q
  cases r1 with
  | int i =>
    cases r2 with
    | int j =>
      have e : (if j ≠ 0 ∧ j.natAbs < 1073741824 then some (D.int (i.fdiv j)) else none) = some d := e
      split at e
      · rename_i hl; cases e; exact ⟨i, j, rfl, rfl, hl, q _ H (Post.refl _ _) ok (.int _)⟩
      · cases e
    | _ => cases e
  | _ => cases e
theorem fits_pow : Fits2 (rI CPow fun i j => .int (i ^ j.toNat)) powG := by
  intro μ H m x y dx dy d Q ok r1 r2 e q
  cases r1 with
  | int i =>
    cases r2 with
    | int j =>
      have e : (if 0 ≤ j ∧ j ≤ 1000000 ∧ i.natAbs < 2 ^ 64 then some (D.int (i ^ j.toNat)) else none) = some d := e
      split at e
      · rename_i hl; cases e; exact ⟨i, j, rfl, rfl, hl, q _ H (Post.refl _ _) ok (.int _)⟩
      · cases e
    | _ => cases e
  | _ => cases e
variable {a b c : Expr} {fa fb fc : F} {pos : Pos}
theorem d_add (ha : PE X a (tD fa)) (hb : PE X b (tD fb)) : PE X (.BinOp a .Add b pos) (tD (fBin addG fa fb)) := d_op op_addD fits_add ha hb
theorem d_mul (ha : PE X a (tD fa)) (hb : PE X b (tD fb)) : PE X (.BinOp a .Mult b pos) (tD (fBin mulG fa fb)) := d_op op_mulD fits_mul ha hb
theorem d_sub (ha : PE X a (tD fa)) (hb : PE X b (tD fb)) : PE X (.BinOp a .Sub b pos) (tD (fBin subG fa fb)) := d_op op_sub fits_sub ha hb
theorem d_mod (ha : PE X a (tD fa)) (hb : PE X b (tD fb)) : PE X (.BinOp a .Mod b pos) (tD (fBin modG fa fb)) := d_op op_modN fits_mod ha hb
theorem d_fdiv (ha : PE X a (tD fa)) (hb : PE X b (tD fb)) : PE X (.BinOp a .FloorDiv b pos) (tD (fBin fdivG fa fb)) := d_op op_fdivN fits_fdiv ha hb
theorem d_pow (ha : PE X a (tD fa)) (hb : PE X b (tD fb)) : PE X (.BinOp a .Pow b pos) (tD (fBin powG fa fb)) := d_op op_pow fits_pow ha hb
def negG : G1 := fun x _ => match x with | .int i => some (.int (-i)) | _ => none
theorem d_neg (ha : PE X a (tD fa)) : PE X (.UnaryOp .USub a pos) (tD (fUn negG fa)) := by
  refine PE.weak (pe_un un_neg ha) fun σ H Q ⟨μ, ε, m, d, m', re, ok, e, q⟩ => ?_
  obtain ⟨x, e1, e2⟩ := fUn_some e
  refine tD.step re ok e1 fun v H1 p1 ok1 re1 r1 => ?_
  cases r1 with
  | int i => cases (show some (D.int (-i)) = some d from e2); exact ⟨i, rfl, q _ H1 p1 ok1 (.int _)⟩
  | _ => cases e2
end
end DL
end
section
set_option Elab.async false
set_option linter.all false
set_option maxRecDepth 100000
namespace DL
open PySem PySem.Spec PyProof.Rows L2
/-! ### comparisons by data -/
def flatD : D → Option V
  | .non => some .non | .bl b => some (.bl b) | .int i => some (.int i) | .str s => some (.str s) | _ => none
def flatsD : List D → Option (List V)
  | [] => some []
  | d :: r => (flatD d).bind fun v => (flatsD r).map fun vs => v :: vs
theorem flat_rep {μ : Mu} {H : Hp} {v u : V} {d : D} (r : Rep μ H v d) (e : flatD d = some u) : v = u := by
  cases r <;> first | exact Option.some.inj e | exact nomatch e
theorem flat_flatV {u : V} {d : D} (e : flatD d = some u) : flatV u = true := by
  cases d <;> first | (cases Option.some.inj e; rfl) | exact nomatch e
theorem flats_rep {μ : Mu} {H : Hp} : ∀ {vs us : List V} {ds : List D}, Reps μ H vs ds → flatsD ds = some us → vs = us ∧ us.all flatV = true
  | _, _, _, .nil, e => by cases Option.some.inj e; exact ⟨rfl, rfl⟩
  | _, us, d :: ds, .cons r t, e => by
    have e : ((flatD d).bind fun v => (flatsD ds).map fun vs => v :: vs) = some us := e
    cases e1 : flatD d with
    | none => rw [e1] at e; cases e
    | some v =>
      rw [e1] at e
      simp only [Option.bind_some] at e
      cases e2 : flatsD ds with
      | none => rw [e2] at e; cases e
      | some vs =>
        rw [e2] at e
        simp at e
        subst e
        obtain ⟨h1, h2⟩ := flats_rep t e2
        rw [flat_rep r e1, h1]
        exact ⟨rfl, by rw [List.all_cons, flat_flatV e1, h2]; rfl⟩
mutual
def toPy : D → Option PyData
  | .non => some .none | .bl b => some (.bool b) | .int i => some (.int i) | .str s => some (.str s)
  | .tup l => (toPys l).map .tuple
  | .lst l => (toPys l).map .list
  | .mr _ => none
def toPys : List D → Option (List PyData)
  | [] => some []
  | d :: r => (toPy d).bind fun p => (toPys r).map fun ps => p :: ps
end
mutual
theorem toPy_dp {K : PySem.W.Frag} {μ : Mu} {H : Hp} : ∀ {v : V} {d : D} {p : PyData}, Rep μ H v d → toPy d = some p → Dp K H v p
  | _, _, _, .non, e => by rw [toPy] at e; cases e; exact .non
  | _, _, _, .bl b, e => by rw [toPy] at e; cases e; exact .bl b
  | _, _, _, .int i, e => by rw [toPy] at e; cases e; exact .int i
  | _, _, _, .str s, e => by rw [toPy] at e; cases e; exact .str s
  | _, .tup ds, p, .tup h hn rs, e => by
    rw [toPy] at e
    cases e1 : toPys ds with
    | none => rw [e1] at e; cases e
    | some ps => rw [e1] at e; cases e; exact .tup (SqT.of h) (toPys_dp rs e1)
  | _, .lst ds, p, .lst h hn rs, e => by
    rw [toPy] at e
    cases e1 : toPys ds with
    | none => rw [e1] at e; cases e
    | some ps => rw [e1] at e; cases e; exact .lst (SqL.of h) (toPys_dp rs e1)
  | _, _, _, .mr h, e => by rw [toPy] at e; cases e
theorem toPys_dp {K : PySem.W.Frag} {μ : Mu} {H : Hp} : ∀ {vs : List V} {ds : List D} {ps : List PyData}, Reps μ H vs ds → toPys ds = some ps → DpAll K H vs ps
  | _, _, _, .nil, e => by rw [toPys] at e; cases e; exact .nil
  | _, d :: ds, ps, .cons r t, e => by
    rw [toPys] at e
    cases e1 : toPy d with
    | none => rw [e1] at e; cases e
    | some p =>
      rw [e1] at e
      simp only [Option.bind_some] at e
      cases e2 : toPys ds with
      | none => rw [e2] at e; cases e
      | some qs => rw [e2] at e; cases e; exact .cons (toPy_dp r e1) (toPys_dp t e2)
end
/-- a changeable list is seen as what it holds -/
def seen (m : M) : D → Option D
  | .mr k => m[k]?.map .lst
  | d => some d
theorem seen_dp {K : PySem.W.Frag} {μ : Mu} {H : Hp} {m : M} {v : V} {d d' : D} {p : PyData} (ok : MOk μ H m) (r : Rep μ H v d) (e : seen m d = some d') (e2 : toPy d' = some p) : Dp K H v p := by
  cases r with
  | @mr a k h =>
    have e : m[k]?.map D.lst = some d' := e
    cases e1 : m[k]? with
    | none => rw [e1] at e; cases e
    | some ds =>
      rw [e1] at e
      cases e
      obtain ⟨vs, hv, rs⟩ := ok.at_ k a ds h e1
      rw [toPy] at e2
      cases e3 : toPys ds with
      | none => rw [e3] at e2; cases e2
      | some ps => rw [e3] at e2; cases e2; exact .lst (SqL.of hv) (toPys_dp rs e3)
  | non => cases e; exact toPy_dp (.non : Rep μ H _ _) e2
  | bl b => cases e; exact toPy_dp (.bl b : Rep μ H _ _) e2
  | int i => cases e; exact toPy_dp (.int i : Rep μ H _ _) e2
  | str s => cases e; exact toPy_dp (.str s : Rep μ H _ _) e2
  | tup h hn rs => cases e; exact toPy_dp (.tup h hn rs) e2
  | lst h hn rs => cases e; exact toPy_dp (.lst h hn rs) e2
def pyOf (m : M) (d : D) : Option PyData := ((seen m d).bind toPy).bind fun p => if SeqAt.shaped p = true then some p else none
theorem pyOf_dp {K : PySem.W.Frag} {μ : Mu} {H : Hp} {m : M} {v : V} {d : D} {p : PyData} (ok : MOk μ H m) (r : Rep μ H v d) (e : pyOf m d = some p) : Dp K H v p ∧ SeqAt.shaped p = true := by
  unfold pyOf at e
  cases e1 : seen m d with
  | none => rw [e1] at e; cases e
  | some d' =>
    rw [e1] at e
    simp only [Option.bind_some] at e
    cases e2 : toPy d' with
    | none => rw [e2] at e; cases e
    | some q =>
      rw [e2] at e
      simp only [Option.bind_some] at e
      split at e
      · rename_i hs
        cases e
        exact ⟨seen_dp ok r e1 e2, hs⟩
      · cases e
def eqF (x y : D) : Option Bool := (flatD x).bind fun u => (flatD y).bind fun v => if scal u v = true then some (decide (u = v)) else none
def eqP (x y : D) (m : M) : Option Bool := (pyOf m x).bind fun p => (pyOf m y).map fun q => PyData.eqv p q
def eqG : G2 := fun x y m => ((eqF x y).or (eqP x y m)).map .bl
def neG : G2 := fun x y m => ((eqF x y).or (eqP x y m)).map fun b => .bl !b
theorem eq_core {K : PySem.W.Frag} {μ : Mu} {H : Hp} {m : M} {x y : V} {dx dy : D} {b : Bool} (ok : MOk μ H m) (r1 : Rep μ H x dx) (r2 : Rep μ H y dy) (e : (eqF dx dy).or (eqP dx dy m) = some b) :
    (scal x y = true ∧ decide (x = y) = b) ∨ ∃ d e, Dp K H x d ∧ Dp K H y e ∧ SeqAt.shaped d = true ∧ SeqAt.shaped e = true ∧ PyData.eqv d e = b := by
  cases e1 : eqF dx dy with
  | some b' =>
    rw [e1] at e
    simp at e
    subst e
    unfold eqF at e1
    cases f1 : flatD dx with
    | none => rw [f1] at e1; cases e1
    | some u =>
      rw [f1] at e1
      simp only [Option.bind_some] at e1
      cases f2 : flatD dy with
      | none => rw [f2] at e1; cases e1
      | some v =>
        rw [f2] at e1
        simp only [Option.bind_some] at e1
        split at e1
        · rename_i hs
          rw [flat_rep r1 f1, flat_rep r2 f2]
          exact .inl ⟨hs, Option.some.inj e1⟩
        · cases e1
  | none =>
    rw [e1] at e
    simp at e
    unfold eqP at e
    cases f1 : pyOf m dx with
    | none => rw [f1] at e; cases e
    | some p =>
      rw [f1] at e
      simp only [Option.bind_some] at e
      cases f2 : pyOf m dy with
      | none => rw [f2] at e; cases e
      | some q =>
        rw [f2] at e
        simp at e
        obtain ⟨h1, h2⟩ := pyOf_dp (K := K) ok r1 f1
        obtain ⟨h3, h4⟩ := pyOf_dp (K := K) ok r2 f2
        exact .inr ⟨p, q, h1, h3, h2, h4, e⟩
theorem map_bl {o : Option Bool} {f : Bool → D} {d : D} (e : o.map f = some d) : ∃ b, o = some b ∧ d = f b := by
  cases o with
  | none => cases e
  | some b => exact ⟨b, rfl, (Option.some.inj e).symm⟩
section
variable {X : Cx} {K : PySem.W.Frag}
theorem fits_eq : Fits2 (fun x y H Q => rEq x y H Q ∨ rEqD K x y H Q) eqG := by
  intro μ H m x y dx dy d Q ok r1 r2 e q
  obtain ⟨b, e', rfl⟩ := map_bl e
  clear e
  have e := e'
  have q' : Q (.bl b) H := q _ H (Post.refl _ _) ok (.bl b)
  rcases eq_core (K := K) ok r1 r2 e with ⟨h1, rfl⟩ | ⟨p, r, h1, h2, h3, h4, rfl⟩
  · exact .inl ⟨h1, q'⟩
  · exact .inr ⟨p, r, h1, h2, h3, h4, q'⟩
theorem fits_ne : Fits2 (fun x y H Q => rNe x y H Q ∨ rNeD K x y H Q) neG := by
  intro μ H m x y dx dy d Q ok r1 r2 e q
  obtain ⟨b, e', rfl⟩ := map_bl e
  clear e
  have e := e'
  have q' : Q (.bl !b) H := q _ H (Post.refl _ _) ok (.bl _)
  rcases eq_core (K := K) ok r1 r2 e with ⟨h1, rfl⟩ | ⟨p, r, h1, h2, h3, h4, rfl⟩
  · exact .inl ⟨h1, q'⟩
  · exact .inr ⟨p, r, h1, h2, h3, h4, q'⟩
def ltG : G2 := fun x y _ => match x, y with | .int i, .int j => some (.bl (decide (i < j))) | .str a, .str b => some (.bl (decide (a.cps.toList < b.cps.toList))) | _, _ => none
def leG : G2 := fun x y _ => match x, y with | .int i, .int j => some (.bl (decide (i ≤ j))) | .str a, .str b => some (.bl (!decide (b.cps.toList < a.cps.toList))) | _, _ => none
def gtG : G2 := fun x y _ => match x, y with | .int i, .int j => some (.bl (decide (j < i))) | .str a, .str b => some (.bl (decide (b.cps.toList < a.cps.toList))) | _, _ => none
def geG : G2 := fun x y _ => match x, y with | .int i, .int j => some (.bl (decide (j ≤ i))) | .str a, .str b => some (.bl (!decide (a.cps.toList < b.cps.toList))) | _, _ => none
abbrev rIS (f : Int → Int → Bool) (g : Str → Str → Bool) : R2 := fun x y H Q => rI0 (fun i j => .bl (f i j)) x y H Q ∨ ∃ i j, x = .str i ∧ y = .str j ∧ Q (.bl (g i j)) H
theorem fits_IS {f : Int → Int → Bool} {g : Str → Str → Bool} {G : G2} (h1 : ∀ i j m, G (.int i) (.int j) m = some (.bl (f i j))) (h2 : ∀ a b m, G (.str a) (.str b) m = some (.bl (g a b)))
    (h3 : ∀ x y m d, G x y m = some d → (∃ i j, x = .int i ∧ y = .int j) ∨ ∃ a b, x = .str a ∧ y = .str b) : Fits2 (rIS f g) G := by
  intro μ H m x y dx dy d Q ok r1 r2 e q
  rcases h3 _ _ _ _ e with ⟨i, j, rfl, rfl⟩ | ⟨i, j, rfl, rfl⟩
  · rw [h1] at e
    cases e
    cases r1
    cases r2
    exact .inl ⟨i, j, rfl, rfl, q _ H (Post.refl _ _) ok (.bl _)⟩
  · rw [h2] at e
    cases e
    cases r1
    cases r2
    exact .inr ⟨i, j, rfl, rfl, q _ H (Post.refl _ _) ok (.bl _)⟩
theorem fits_lt : Fits2 (rIS (fun i j => decide (i < j)) (fun a b => decide (a.cps.toList < b.cps.toList))) ltG := fits_IS (fun _ _ _ => rfl) (fun _ _ _ => rfl) fun x y m d e => by
  cases x <;> cases y <;> first | exact .inl ⟨_, _, rfl, rfl⟩ | exact .inr ⟨_, _, rfl, rfl⟩ | cases e
theorem fits_le : Fits2 (rIS (fun i j => decide (i ≤ j)) (fun a b => !decide (b.cps.toList < a.cps.toList))) leG := fits_IS (fun _ _ _ => rfl) (fun _ _ _ => rfl) fun x y m d e => by
  cases x <;> cases y <;> first | exact .inl ⟨_, _, rfl, rfl⟩ | exact .inr ⟨_, _, rfl, rfl⟩ | cases e
theorem fits_gt : Fits2 (rIS (fun i j => decide (j < i)) (fun a b => decide (b.cps.toList < a.cps.toList))) gtG := fits_IS (fun _ _ _ => rfl) (fun _ _ _ => rfl) fun x y m d e => by
  cases x <;> cases y <;> first | exact .inl ⟨_, _, rfl, rfl⟩ | exact .inr ⟨_, _, rfl, rfl⟩ | cases e
theorem fits_ge : Fits2 (rIS (fun i j => decide (j ≤ i)) (fun a b => !decide (a.cps.toList < b.cps.toList))) geG := fits_IS (fun _ _ _ => rfl) (fun _ _ _ => rfl) fun x y m d e => by
  cases x <;> cases y <;> first | exact .inl ⟨_, _, rfl, rfl⟩ | exact .inr ⟨_, _, rfl, rfl⟩ | cases e
theorem op_ltD : OpR X (compareOp .Lt) (rIS (fun i j => decide (i < j)) (fun a b => decide (a.cps.toList < b.cps.toList))) := op_lt.or op_lt_str
theorem op_leD : OpR X (compareOp .LtE) (rIS (fun i j => decide (i ≤ j)) (fun a b => !decide (b.cps.toList < a.cps.toList))) := op_le.or op_le_str
theorem op_gtD : OpR X (compareOp .Gt) (rIS (fun i j => decide (j < i)) (fun a b => decide (b.cps.toList < a.cps.toList))) := op_gt.or op_gt_str
theorem op_geD : OpR X (compareOp .GtE) (rIS (fun i j => decide (j ≤ i)) (fun a b => !decide (a.cps.toList < b.cps.toList))) := op_ge.or op_ge_str
/-- in: among flat things, or a sign in a text -/
def inB (x y : D) : Option Bool := match x, y with
  | .str s, .str z => if s.cps.size = 1 then some (decide (s.cps.getD 0 0 ∈ z.cps.toList)) else none
  | x, .tup l => (flatD x).bind fun u => (flatsD l).map fun us => inV u us
  | x, .lst l => (flatD x).bind fun u => (flatsD l).map fun us => inV u us
  | _, _ => none
def inG : G2 := fun x y _ => (inB x y).map .bl
def notInG : G2 := fun x y _ => (inB x y).map fun b => .bl !b
theorem one_sign {s : Str} (h : s.cps.size = 1) : s = ⟨#[s.cps.getD 0 0]⟩ := by
  obtain ⟨cps⟩ := s
  obtain ⟨l⟩ := cps
  match l, h with
  | [c], _ => rfl
theorem in_core {μ : Mu} {H : Hp} {x y : V} {dx dy : D} {b : Bool} (r1 : Rep μ H x dx) (r2 : Rep μ H y dy) (e : inB dx dy = some b) :
    (∃ (c : Nat) (z : Str), x = .str ⟨#[c]⟩ ∧ y = .str z ∧ decide (c ∈ z.cps.toList) = b) ∨ ∃ p xs, y = .ref p ∧ (SqL K H p xs ∨ SqT K H p xs) ∧ flatV x = true ∧ xs.all flatV = true ∧ inV x xs = b := by
  have fin : ∀ {p vs l}, (SqL K H p vs ∨ SqT K H p vs) → Reps μ H vs l → ((flatD dx).bind fun u => (flatsD l).map fun us => inV u us) = some b → ∃ p' xs, V.ref p = .ref p' ∧ (SqL K H p' xs ∨ SqT K H p' xs) ∧ flatV x = true ∧ xs.all flatV = true ∧ inV x xs = b := by
    intro p vs l hp rs e
    cases f1 : flatD dx with
    | none => rw [f1] at e; cases e
    | some u =>
      rw [f1] at e
      simp only [Option.bind_some] at e
      cases f2 : flatsD l with
      | none => rw [f2] at e; cases e
      | some us =>
        rw [f2] at e
        simp at e
        obtain ⟨h1, h2⟩ := flats_rep rs f2
        subst h1
        rw [flat_rep r1 f1]
        exact ⟨p, vs, rfl, hp, flat_flatV f1, h2, e⟩
  cases r2 with
  | str z =>
    refine .inl ?_
    cases r1 with
    | str s =>
      have e : (if s.cps.size = 1 then some (decide (s.cps.getD 0 0 ∈ z.cps.toList)) else none) = some b := e
      split at e
      · rename_i hs
        refine ⟨s.cps.getD 0 0, z, ?_, rfl, Option.some.inj e⟩
        congr 1
        exact one_sign hs
      · cases e
    | _ => cases e
  | @tup a vs ds h hn rs =>
    refine .inr (fin (.inr (SqT.of h)) rs ?_)
    rw [← e]
    cases dx <;> rfl
  | @lst a vs ds h hn rs =>
    refine .inr (fin (.inl (SqL.of h)) rs ?_)
    rw [← e]
    cases dx <;> rfl
  | _ => cases dx <;> cases e
theorem fits_in : Fits2 (fun x y H Q => (∃ (c : Nat) (z : Str), x = .str ⟨#[c]⟩ ∧ y = .str z ∧ Q (.bl (decide (c ∈ z.cps.toList))) H) ∨ rIn K false x y H Q) inG := by
  intro μ H m x y dx dy d Q ok r1 r2 e q
  obtain ⟨b, e', rfl⟩ := map_bl e
  clear e
  have e := e'
  have q' : Q (.bl b) H := q _ H (Post.refl _ _) ok (.bl b)
  rcases in_core (K := K) r1 r2 e with ⟨c, z, rfl, rfl, rfl⟩ | ⟨p, xs, rfl, h1, h2, h3, rfl⟩
  · exact .inl ⟨c, z, rfl, rfl, q'⟩
  · exact .inr ⟨p, xs, rfl, h1, h2, h3, q'⟩
theorem fits_notIn : Fits2 (fun x y H Q => (∃ (c : Nat) (z : Str), x = .str ⟨#[c]⟩ ∧ y = .str z ∧ Q (.bl (!decide (c ∈ z.cps.toList))) H) ∨ rIn K true x y H Q) notInG := by
  intro μ H m x y dx dy d Q ok r1 r2 e q
  obtain ⟨b, e', rfl⟩ := map_bl e
  clear e
  have e := e'
  have q' : Q (.bl !b) H := q _ H (Post.refl _ _) ok (.bl _)
  rcases in_core (K := K) r1 r2 e with ⟨c, z, rfl, rfl, rfl⟩ | ⟨p, xs, rfl, h1, h2, h3, rfl⟩
  · exact .inl ⟨c, z, rfl, rfl, q'⟩
  · exact .inr ⟨p, xs, rfl, h1, h2, h3, q'⟩
/-- is None, is True -/
def isB (x y : D) : Option Bool := match x, y with
  | .bl a, .bl b => some (decide (a = b))
  | .non, .non => some true
  | _, .non => some false
  | _, _ => none
def isG : G2 := fun x y _ => (isB x y).map .bl
def isNotG : G2 := fun x y _ => (isB x y).map fun b => .bl !b
theorem is_core {μ : Mu} {H : Hp} {x y : V} {dx dy : D} {b : Bool} (r1 : Rep μ H x dx) (r2 : Rep μ H y dy) (e : isB dx dy = some b) :
    (y = .non ∧ decide (x = .non) = b) ∨ ∃ p q, x = .bl p ∧ y = .bl q ∧ decide (p = q) = b := by
  cases r2 with
  | non => cases r1 <;> exact .inl ⟨rfl, Option.some.inj e⟩
  | bl q =>
    cases r1 with
    | bl p => exact .inr ⟨p, q, rfl, rfl, Option.some.inj e⟩
    | _ => exact nomatch e
  | _ => cases r1 <;> exact nomatch e
theorem fits_is : Fits2 (fun x y H Q => (y = V.non ∧ Q (.bl (decide (x = .non))) H) ∨ ∃ a b, x = V.bl a ∧ y = V.bl b ∧ Q (.bl (decide (a = b))) H) isG := by
  intro μ H m x y dx dy d Q ok r1 r2 e q
  obtain ⟨b, e', rfl⟩ := map_bl e
  clear e
  have e := e'
  have q' : Q (.bl b) H := q _ H (Post.refl _ _) ok (.bl b)
  rcases is_core r1 r2 e with ⟨rfl, rfl⟩ | ⟨u, v, rfl, rfl, rfl⟩
  · exact .inl ⟨rfl, q'⟩
  · exact .inr ⟨u, v, rfl, rfl, q'⟩
theorem fits_isNot : Fits2 (fun x y H Q => (y = V.non ∧ Q (.bl (!decide (x = .non))) H) ∨ ∃ a b, x = V.bl a ∧ y = V.bl b ∧ Q (.bl (!decide (a = b))) H) isNotG := by
  intro μ H m x y dx dy d Q ok r1 r2 e q
  obtain ⟨b, e', rfl⟩ := map_bl e
  clear e
  have e := e'
  have q' : Q (.bl !b) H := q _ H (Post.refl _ _) ok (.bl _)
  rcases is_core r1 r2 e with ⟨rfl, rfl⟩ | ⟨u, v, rfl, rfl, rfl⟩
  · exact .inl ⟨rfl, q'⟩
  · exact .inr ⟨u, v, rfl, rfl, q'⟩
variable {a b c : Expr} {fa fb fc : F} {pos : Pos}
theorem d_eq (hu : X.A.units + 64 < cLine) (ha : PE X a (tD fa)) (hb : PE X b (tD fb)) : PE X (.Compare a [.Eq] [b] pos) (tD (fBin eqG fa fb)) := d_cmp (op_eq.or (op_eqD hu)) fits_eq ha hb (nomark _)
theorem d_ne (hu : X.A.units + 64 < cLine) (ha : PE X a (tD fa)) (hb : PE X b (tD fb)) : PE X (.Compare a [.NotEq] [b] pos) (tD (fBin neG fa fb)) := d_cmp (op_ne.or (op_neD hu)) fits_ne ha hb (nomark _)
theorem d_lt (ha : PE X a (tD fa)) (hb : PE X b (tD fb)) : PE X (.Compare a [.Lt] [b] pos) (tD (fBin ltG fa fb)) := d_cmp op_ltD fits_lt ha hb (nomark _)
theorem d_le (ha : PE X a (tD fa)) (hb : PE X b (tD fb)) : PE X (.Compare a [.LtE] [b] pos) (tD (fBin leG fa fb)) := d_cmp op_leD fits_le ha hb (nomark _)
theorem d_gt (ha : PE X a (tD fa)) (hb : PE X b (tD fb)) : PE X (.Compare a [.Gt] [b] pos) (tD (fBin gtG fa fb)) := d_cmp op_gtD fits_gt ha hb (nomark _)
theorem d_ge (ha : PE X a (tD fa)) (hb : PE X b (tD fb)) : PE X (.Compare a [.GtE] [b] pos) (tD (fBin geG fa fb)) := d_cmp op_geD fits_ge ha hb (nomark _)
theorem d_in (ha : PE X a (tD fa)) (hb : PE X b (tD fb)) (hm : behindInMarks .In b = false := by rfl) : PE X (.Compare a [.In] [b] pos) (tD (fBin inG fa fb)) := d_cmp (op_in_sign.or op_in_seq) fits_in ha hb hm
theorem d_notIn (ha : PE X a (tD fa)) (hb : PE X b (tD fb)) (hm : behindInMarks .NotIn b = false := by rfl) : PE X (.Compare a [.NotIn] [b] pos) (tD (fBin notInG fa fb)) := d_cmp (op_notIn_sign.or op_notIn_seq) fits_notIn ha hb hm
theorem d_is (ha : PE X a (tD fa)) (hb : PE X b (tD fb)) : PE X (.Compare a [.Is] [b] pos) (tD (fBin isG fa fb)) := d_cmp (op_isN.or op_is_bl) fits_is ha hb (nomark _)
theorem d_isNot (ha : PE X a (tD fa)) (hb : PE X b (tD fb)) : PE X (.Compare a [.IsNot] [b] pos) (tD (fBin isNotG fa fb)) := d_cmp (op_notN.or op_isnot_bl) fits_isNot ha hb (nomark _)
theorem dt_eq (hu : X.A.units + 64 < cLine) (ha : PE X a (tD fa)) (hb : PE X b (tD fb)) : PT X (.Compare a [.Eq] [b] pos) (tDT (fT (fBin eqG fa fb))) := dt_cmp (op_eq.or (op_eqD hu)) fits_eq ha hb (nomark _)
theorem dt_ne (hu : X.A.units + 64 < cLine) (ha : PE X a (tD fa)) (hb : PE X b (tD fb)) : PT X (.Compare a [.NotEq] [b] pos) (tDT (fT (fBin neG fa fb))) := dt_cmp (op_ne.or (op_neD hu)) fits_ne ha hb (nomark _)
theorem dt_lt (ha : PE X a (tD fa)) (hb : PE X b (tD fb)) : PT X (.Compare a [.Lt] [b] pos) (tDT (fT (fBin ltG fa fb))) := dt_cmp op_ltD fits_lt ha hb (nomark _)
theorem dt_le (ha : PE X a (tD fa)) (hb : PE X b (tD fb)) : PT X (.Compare a [.LtE] [b] pos) (tDT (fT (fBin leG fa fb))) := dt_cmp op_leD fits_le ha hb (nomark _)
theorem dt_gt (ha : PE X a (tD fa)) (hb : PE X b (tD fb)) : PT X (.Compare a [.Gt] [b] pos) (tDT (fT (fBin gtG fa fb))) := dt_cmp op_gtD fits_gt ha hb (nomark _)
theorem dt_ge (ha : PE X a (tD fa)) (hb : PE X b (tD fb)) : PT X (.Compare a [.GtE] [b] pos) (tDT (fT (fBin geG fa fb))) := dt_cmp op_geD fits_ge ha hb (nomark _)
theorem dt_in (ha : PE X a (tD fa)) (hb : PE X b (tD fb)) (hm : behindInMarks .In b = false := by rfl) : PT X (.Compare a [.In] [b] pos) (tDT (fT (fBin inG fa fb))) := dt_cmp (op_in_sign.or op_in_seq) fits_in ha hb hm
theorem dt_notIn (ha : PE X a (tD fa)) (hb : PE X b (tD fb)) (hm : behindInMarks .NotIn b = false := by rfl) : PT X (.Compare a [.NotIn] [b] pos) (tDT (fT (fBin notInG fa fb))) := dt_cmp (op_notIn_sign.or op_notIn_seq) fits_notIn ha hb hm
theorem dt_is (ha : PE X a (tD fa)) (hb : PE X b (tD fb)) : PT X (.Compare a [.Is] [b] pos) (tDT (fT (fBin isG fa fb))) := dt_cmp (op_isN.or op_is_bl) fits_is ha hb (nomark _)
theorem dt_isNot (ha : PE X a (tD fa)) (hb : PE X b (tD fb)) : PT X (.Compare a [.IsNot] [b] pos) (tDT (fT (fBin isNotG fa fb))) := dt_cmp (op_notN.or op_isnot_bl) fits_isNot ha hb (nomark _)
/-! ### two comparisons in one -/
def fChain (g g' : G2) (fa fb fc : F) : F := fun ε m => (fa ε m).bind fun p => (fb ε p.2).bind fun q => (g p.1 q.1 q.2).bind fun z => match z with
  | .bl true => (fc ε q.2).bind fun r => (g' q.1 r.1 r.2).map fun d => (d, r.2)
  | .bl false => some (.bl false, q.2)
  | _ => none
theorem d_chainT {r r' : R2} {g g' : G2} (hr : Fits2 r g) (hr' : Fits2 r' g') {σ : L2.St} {H : Hp} {Q : VK} (h : tD (fChain g g' fa fb fc) σ H Q) : tChain r r' (tD fa) (tD fb) (tD fc) σ H Q := by
  obtain ⟨μ, ε, m, d, m', re, ok, e, q⟩ := h
  unfold fChain at e
  cases e1 : fa ε m with
  | none => rw [e1] at e; cases e
  | some p =>
    obtain ⟨dx, m1⟩ := p
    rw [e1] at e
    simp only [Option.bind_some] at e
    cases e2 : fb ε m1 with
    | none => rw [e2] at e; cases e
    | some p =>
      obtain ⟨dy, m2⟩ := p
      rw [e2] at e
      simp only [Option.bind_some] at e
      cases e3 : g dx dy m2 with
      | none => rw [e3] at e; cases e
      | some d' =>
        rw [e3] at e
        simp only [Option.bind_some] at e
        refine tD.step re ok e1 fun x H1 p1 ok1 re1 r1 => ?_
        refine tD.step re1 ok1 e2 fun y H2 p2 ok2 re2 r2 => ?_
        refine hr μ H2 m2 x y dx dy d' _ ok2 (r1.grow p2) r2 e3 fun z H3 p3 ok3 r3 => ?_
        cases r3 with
        | bl k =>
          refine ⟨k, rfl, ?_⟩
          cases k with
          | false =>
            rw [if_neg Bool.false_ne_true]
            simp at e
            obtain ⟨rfl, rfl⟩ := e
            exact q _ H3 ((p1.trans p2).trans p3) ok3 (.bl false)
          | true =>
            rw [if_pos rfl]
            have e : ((fc ε m2).bind fun r => (g' dy r.1 r.2).map fun d => (d, r.2)) = some (d, m') := e
            cases e4 : fc ε m2 with
            | none => rw [e4] at e; cases e
            | some p =>
              obtain ⟨dz, m4⟩ := p
              rw [e4] at e
              simp only [Option.bind_some] at e
              cases e5 : g' dy dz m4 with
              | none => rw [e5] at e; cases e
              | some d5 =>
                rw [e5] at e
                simp at e
                obtain ⟨rfl, rfl⟩ := e
                refine tD.step (re2.grow p3) ok3 e4 fun w H4 p4 ok4 re4 r4 => ?_
                exact hr' μ H4 m4 y w dy dz d5 Q ok4 ((r2.grow p3).grow p4) r4 e5 fun v H5 p5 ok5 r5 => q v H5 ((((p1.trans p2).trans p3).trans p4).trans p5) ok5 r5
        | _ => cases e
theorem d_chain {op op' : CmpOp} {r r' : R2} {g g' : G2} (ho : OpR X (compareOp op) r) (hr : Fits2 r g) (ho' : OpR X (compareOp op') r') (hr' : Fits2 r' g') (ha : PE X a (tD fa)) (hb : PE X b (tD fb)) (hc : PE X c (tD fc))
    (hm : lastMarks [op, op'] [b, c] = false := by with_unfolding_all rfl) : PE X (.Compare a [op, op'] [b, c] pos) (tD (fChain g g' fa fb fc)) := PE.weak (pe_chain ho ho' ha hb hc hm) fun _ _ _ h => d_chainT hr hr' h
theorem dt_chain {op op' : CmpOp} {r r' : R2} {g g' : G2} (ho : OpR X (compareOp op) r) (hr : Fits2 r g) (ho' : OpR X (compareOp op') r') (hr' : Fits2 r' g') (ha : PE X a (tD fa)) (hb : PE X b (tD fb)) (hc : PE X c (tD fc))
    (hm : lastMarks [op, op'] [b, c] = false := by with_unfolding_all rfl) : PT X (.Compare a [op, op'] [b, c] pos) (tDT (fT (fChain g g' fa fb fc))) := PT.weak (pt_chain ho ho' ha hb hc hm) fun _ _ _ h => d_chainT hr hr' (tTest_of h)
end
end DL
end
section
set_option Elab.async false
set_option linter.all false
set_option maxRecDepth 100000
namespace DL
open PySem PySem.Spec PyProof.Rows L2
/-! ### items, slices -/
theorem Reps.atI {μ : Mu} {H : Hp} {vs : List V} {ds : List D} {i : Int} {d : D} (r : Reps μ H vs ds) (e : L2.atI ds i = some d) : ∃ v, L2.atI vs i = some v ∧ Rep μ H v d := by
  unfold L2.atI at e ⊢
  rw [r.length]
  cases e1 : ixN ds.length i with
  | none => rw [e1] at e; cases e
  | some j =>
    rw [e1] at e
    simp only [Option.bind_some] at e ⊢
    exact r.get e
def ixG : G2 := fun x y m => match x, y with
  | .tup l, .int i => atI l i
  | .lst l, .int i => atI l i
  | .mr k, .int i => m[k]?.bind fun l => atI l i
  | .str s, .int i => if s.length ≤ sizeLine then (atI s.cps.toList i).map fun c => .str ⟨#[c]⟩ else none
  | _, _ => none
section
variable {X : Cx} {K : PySem.W.Frag}
theorem fits_ix : Fits2 (rIx K) ixG := by
  intro μ H m x y dx dy d Q ok r1 r2 e q
  cases r2 with
  | int i =>
    cases r1 with
    | tup h hn rs => obtain ⟨v, e1, r⟩ := rs.atI e; exact .inr (.inl ⟨_, _, i, v, rfl, rfl, SqT.of h, e1, q v H (Post.refl _ _) ok r⟩)
    | lst h hn rs => obtain ⟨v, e1, r⟩ := rs.atI e; exact .inl ⟨_, _, i, v, rfl, rfl, SqL.of h, e1, q v H (Post.refl _ _) ok r⟩
    | @mr a k h =>
      have e : (m[k]?.bind fun l => atI l i) = some d := e
      cases e1 : m[k]? with
      | none => rw [e1] at e; cases e
      | some ds =>
        rw [e1] at e
        simp only [Option.bind_some] at e
        obtain ⟨vs, hv, rs⟩ := ok.at_ k a ds h e1
        obtain ⟨v, e1, r⟩ := rs.atI e
        exact .inl ⟨_, _, i, v, rfl, rfl, SqL.of hv, e1, q v H (Post.refl _ _) ok r⟩
    | str s =>
      have e : (if s.length ≤ sizeLine then (atI s.cps.toList i).map fun c => D.str ⟨#[c]⟩ else none) = some d := e
      split at e
      · rename_i hl
        cases e1 : atI s.cps.toList i with
        | none => rw [e1] at e; cases e
        | some c =>
          rw [e1] at e
          cases e
          exact .inr (.inr ⟨s, i, c, rfl, rfl, hl, e1, q _ H (Post.refl _ _) ok (.str _)⟩)
      · cases e
    | _ => cases e
  | _ => cases r1 <;> cases e
abbrev FO := Ev → M → Option (Option Int × M)
def tDO (f : FO) : TO := fun σ H Q => ∃ μ ε m o m', REnv μ H σ ε ∧ MOk μ H m ∧ f ε m = some (o, m') ∧ ∀ H', Post μ H μ H' → MOk μ H' m' → Q o H'
def foN : FO := fun _ m => some (none, m)
def foS (f : F) : FO := fun ε m => (f ε m).bind fun p => match p.1 with | .int i => some (some i, p.2) | _ => none
theorem PO.weak {X : Cx} {e : Option Expr} {t t' : TO} (h : PO X e t) (w : ∀ σ H Q, t' σ H Q → t σ H Q) : PO X e t' := ⟨fun pins s σ H Q I q => h.run pins s σ H Q I (w σ H Q q)⟩
theorem do_n : PO X none (tDO foN) := PO.weak po_none fun σ H Q ⟨μ, ε, m, o, m', re, ok, e, q⟩ => by cases e; exact q H (Post.refl _ _) ok
theorem do_s {e : Expr} {f : F} (h : PE X e (tD f)) : PO X (some e) (tDO (foS f)) := by
  refine PO.weak (po_some h) fun σ H Q ⟨μ, ε, m, o, m', re, ok, e, q⟩ => ?_
  unfold foS at e
  cases e1 : f ε m with
  | none => rw [e1] at e; cases e
  | some p =>
    obtain ⟨d, m1⟩ := p
    rw [e1] at e
    simp only [Option.bind_some] at e
    cases d with
    | int i =>
      simp at e
      obtain ⟨rfl, rfl⟩ := e
      refine tD.step re ok e1 fun v H1 p1 ok1 re1 r1 => ?_
      cases r1
      exact ⟨i, rfl, q H1 p1 ok1⟩
    | _ => cases e
def cutD (xs : List D) (lo hi : Option Int) : List D := (xs.drop (HT.sIx xs.length 0 lo)).take (HT.sIx xs.length xs.length hi - HT.sIx xs.length 0 lo)
theorem Reps.cut {μ : Mu} {H : Hp} {vs : List V} {ds : List D} (r : Reps μ H vs ds) (lo hi : Option Int) : Reps μ H (cutV vs lo hi) (cutD ds lo hi) := by
  unfold cutV cutD
  rw [r.length]
  exact (r.drop _).take _
def slG (x : D) (lo hi : Option Int) (m : M) : Option D := match x with
  | .tup l => some (.tup (cutD l lo hi))
  | .lst l => some (.lst (cutD l lo hi))
  | .mr k => m[k]?.map fun l => .lst (cutD l lo hi)
  | .str s => if s.length ≤ sizeLine then some (.str (cutS s lo hi)) else none
  | _ => none
def fSl (fa : F) (fl fh : FO) : F := fun ε m => (fa ε m).bind fun p => (fl ε p.2).bind fun q => (fh ε q.2).bind fun r => (slG p.1 q.1 r.1 r.2).map fun d => (d, r.2)
theorem d_slice {a : Expr} {fa : F} {lo hi : Option Expr} {fl fh : FO} {p2 pos : Pos} (ha : PE X a (tD fa)) (hl : PO X lo (tDO fl)) (hh : PO X hi (tDO fh)) : PE X (.Subscript a (.Slice lo hi none p2) pos) (tD (fSl fa fl fh)) := by
  refine PE.weak (pe_slice (sl_list.or (sl_tupA.or sl_str)) ha hl hh) fun σ H Q ⟨μ, ε, m, d, m', re, ok, e, q⟩ => ?_
  unfold fSl at e
  cases e1 : fa ε m with
  | none => rw [e1] at e; cases e
  | some p =>
    obtain ⟨dx, m1⟩ := p
    rw [e1] at e
    simp only [Option.bind_some] at e
    cases e2 : fl ε m1 with
    | none => rw [e2] at e; cases e
    | some p =>
      obtain ⟨l, m2⟩ := p
      rw [e2] at e
      simp only [Option.bind_some] at e
      cases e3 : fh ε m2 with
      | none => rw [e3] at e; cases e
      | some p =>
        obtain ⟨u, m3⟩ := p
        rw [e3] at e
        simp only [Option.bind_some] at e
        cases e4 : slG dx l u m3 with
        | none => rw [e4] at e; cases e
        | some d' =>
          rw [e4] at e
          simp at e
          obtain ⟨rfl, rfl⟩ := e
          refine tD.step re ok e1 fun x H1 p1 ok1 re1 r1 => ?_
          refine ⟨μ, ε, m1, l, m2, re1, ok1, e2, fun H2 p2 ok2 => ⟨μ, ε, m2, u, m3, re1.grow p2, ok2, e3, fun H3 p3 ok3 => ?_⟩⟩
          have pp := (p1.trans p2).trans p3
          have r3 := (r1.grow p2).grow p3
          clear r1
          cases r3 with
          | @tup a vs ds h hn rs =>
            cases e4
            refine .inr (.inl ⟨a, vs, rfl, SqT.of h, fun z => ?_, fun z b hb => ?_⟩)
            · have : cutD ds l u = ds := by
                unfold cutD
                rw [rs.length] at z
                rw [z.1, z.2]
                simp
              rw [this] at q
              exact q _ H3 pp ok3 (.tup h hn rs)
            · exact q _ _ (pp.trans (post_new hb _)) (ok3.new hb _) (.tup upd_same (ok3.free hb) ((rs.cut l u).grow (post_new hb _)))
          | @lst a vs ds h hn rs =>
            cases e4
            exact .inl ⟨a, vs, rfl, SqL.of h, fun b hb => q _ _ (pp.trans (post_new hb _)) (ok3.new hb _) (.lst upd_same (ok3.free hb) ((rs.cut l u).grow (post_new hb _)))⟩
          | @mr a k h =>
            have e : (m3[k]?.map fun x => D.lst (cutD x l u)) = some d' := e4
            cases e5 : m3[k]? with
            | none => rw [e5] at e; cases e
            | some ds =>
              rw [e5] at e
              cases e
              obtain ⟨vs, hv, rs⟩ := ok3.at_ k a ds h e5
              exact .inl ⟨a, vs, rfl, SqL.of hv, fun b hb => q _ _ (pp.trans (post_new hb _)) (ok3.new hb _) (.lst upd_same (ok3.free hb) ((rs.cut l u).grow (post_new hb _)))⟩
          | str s =>
            have e : (if s.length ≤ sizeLine then some (D.str (cutS s l u)) else none) = some d' := e4
            split at e
            · rename_i hl
              cases e
              exact .inr (.inr ⟨s, rfl, hl, q _ H3 pp ok3 (.str _)⟩)
            · cases e
          | _ => cases e4
/-! ### built-ins -/
def lenG : GN := fun xs m => match xs with
  | [.tup l] => some (.int l.length)
  | [.lst l] => some (.int l.length)
  | [.mr k] => m[k]?.map fun l => .int l.length
  | [.str s] => if s.length ≤ sizeLine then some (.int s.length) else none
  | _ => none
theorem reps1 {μ : Mu} {H : Hp} {vs : List V} {d : D} (r : Reps μ H vs [d]) : ∃ v, vs = [v] ∧ Rep μ H v d := by
  cases r with
  | cons r t => cases t; exact ⟨_, rfl, r⟩
theorem fits_len : FitsN (fun xs H Q => ∃ x n, xs = [x] ∧ LenV K x H n ∧ Q (.int n) H) lenG := by
  intro μ H m vs ds d Q ok r e q
  match ds, e with
  | [dx], e =>
    obtain ⟨v, rfl, r1⟩ := reps1 r
    cases r1 with
    | tup h hn rs => cases e; exact ⟨_, _, rfl, .inr ⟨_, SqT.of h, rs.length.symm⟩, q _ H (Post.refl _ _) ok (.int _)⟩
    | lst h hn rs => cases e; exact ⟨_, _, rfl, .inl ⟨_, SqL.of h, rs.length.symm⟩, q _ H (Post.refl _ _) ok (.int _)⟩
    | @mr a k h =>
      have e : (m[k]?.map fun l => D.int l.length) = some d := e
      cases e1 : m[k]? with
      | none => rw [e1] at e; cases e
      | some ds =>
        rw [e1] at e
        cases e
        obtain ⟨ws, hv, rs⟩ := ok.at_ k a ds h e1
        exact ⟨_, _, rfl, .inl ⟨_, SqL.of hv, rs.length.symm⟩, q _ H (Post.refl _ _) ok (.int _)⟩
    | str s =>
      have e : (if s.length ≤ sizeLine then some (D.int s.length) else none) = some d := e
      split at e
      · rename_i hl
        cases e
        exact ⟨_, s.length, rfl, ⟨hl, rfl⟩, q _ H (Post.refl _ _) ok (.int _)⟩
      · cases e
    | _ => cases e
  | [], e => cases e
  | _ :: _ :: _, e => simp [lenG] at e
def absG : GN := fun xs _ => match xs with | [.int i] => some (.int (if i < 0 then -i else i)) | _ => none
theorem fits_abs : FitsN (fun xs H Q => ∃ i, xs = [V.int i] ∧ Q (.int (if i < 0 then -i else i)) H) absG := by
  intro μ H m vs ds d Q ok r e q
  match ds, e with
  | [.int i], e => obtain ⟨v, rfl, r1⟩ := reps1 r; cases r1; cases (show some (D.int (if i < 0 then -i else i)) = some d from e); exact ⟨i, rfl, q _ H (Post.refl _ _) ok (.int _)⟩
def intG : GN := fun xs _ => match xs with | [.int i] => some (.int i) | [.bl k] => some (.int (if k then 1 else 0)) | _ => none
theorem fits_int : FitsN (fun xs H Q => (∃ i, xs = [V.int i] ∧ Q (.int i) H) ∨ ∃ k, xs = [V.bl k] ∧ Q (.int (if k then 1 else 0)) H) intG := by
  intro μ H m vs ds d Q ok r e q
  match ds, e with
  | [.int i], e => obtain ⟨v, rfl, r1⟩ := reps1 r; cases r1; cases (show some (D.int i) = some d from e); exact .inl ⟨i, rfl, q _ H (Post.refl _ _) ok (.int _)⟩
  | [.bl k], e => obtain ⟨v, rfl, r1⟩ := reps1 r; cases r1; cases (show some (D.int (if k then 1 else 0)) = some d from e); exact .inr ⟨k, rfl, q _ H (Post.refl _ _) ok (.int _)⟩
def strG : GN := fun xs _ => match xs with | [.int i] => if i.natAbs.log2 < 1920 then some (.str (Str.ofString (toString i))) else none | _ => none
theorem fits_str : FitsN (fun xs H Q => ∃ i, xs = [V.int i] ∧ i.natAbs.log2 < 1920 ∧ Q (.str (toString i)) H) strG := by
  intro μ H m vs ds d Q ok r e q
  match ds, e with
  | [.int i], e =>
    obtain ⟨v, rfl, r1⟩ := reps1 r
    cases r1
    have e : (if i.natAbs.log2 < 1920 then some (D.str (Str.ofString (toString i))) else none) = some d := e
    split at e
    · rename_i hl
      cases e
      exact ⟨i, rfl, hl, q _ H (Post.refl _ _) ok (.str _)⟩
    · cases e
def ordG : GN := fun xs _ => match xs with | [.str x] => if x.length = 1 then some (.int (x.cps.getD 0 0 : Nat)) else none | _ => none
theorem fits_ord : FitsN (fun xs H Q => ∃ x, xs = [V.str x] ∧ x.length = 1 ∧ Q (.int (x.cps.getD 0 0 : Nat)) H) ordG := by
  intro μ H m vs ds d Q ok r e q
  match ds, e with
  | [.str x], e =>
    obtain ⟨v, rfl, r1⟩ := reps1 r
    cases r1
    have e : (if x.length = 1 then some (D.int (x.cps.getD 0 0 : Nat)) else none) = some d := e
    split at e
    · rename_i hl
      cases e
      exact ⟨x, rfl, hl, q _ H (Post.refl _ _) ok (.int _)⟩
    · cases e
def tupG : GN := fun xs m => match xs with | [.tup l] => some (.tup l) | [.lst l] => some (.tup l) | [.mr k] => m[k]?.map .tup | _ => none
theorem fits_tup : FitsN (fun xs H Q => ∃ p ys, xs = [V.ref p] ∧ ((SqL K H p ys ∧ ∀ l, H l = none → Q (.ref l) (upd H l (.tup ys))) ∨ (SqT K H p ys ∧ Q (.ref p) H))) tupG := by
  intro μ H m vs ds d Q ok r e q
  match ds, e with
  | [.tup l], e =>
    obtain ⟨v, rfl, r1⟩ := reps1 r
    cases (show some (D.tup l) = some d from e)
    cases r1 with
    | tup h hn rs => exact ⟨_, _, rfl, .inr ⟨SqT.of h, q _ H (Post.refl _ _) ok (.tup h hn rs)⟩⟩
  | [.lst l], e =>
    obtain ⟨v, rfl, r1⟩ := reps1 r
    cases (show some (D.tup l) = some d from e)
    cases r1 with
    | lst h hn rs => exact ⟨_, _, rfl, .inl ⟨SqL.of h, fun b hb => q _ _ (post_new hb _) (ok.new hb _) (.tup upd_same (ok.free hb) (rs.grow (post_new hb _)))⟩⟩
  | [.mr k], e =>
    obtain ⟨v, rfl, r1⟩ := reps1 r
    have e : m[k]?.map D.tup = some d := e
    cases e1 : m[k]? with
    | none => rw [e1] at e; cases e
    | some l =>
      rw [e1] at e
      cases e
      cases r1 with
      | mr h =>
        obtain ⟨ws, hv, rs⟩ := ok.at_ k _ l h e1
        exact ⟨_, _, rfl, .inl ⟨SqL.of hv, fun b hb => q _ _ (post_new hb _) (ok.new hb _) (.tup upd_same (ok.free hb) (rs.grow (post_new hb _)))⟩⟩
def lstG : GN := fun xs m => match xs with | [.tup l] => some (.lst l) | [.lst l] => some (.lst l) | [.mr k] => m[k]?.map .lst | _ => none
theorem fits_lst : FitsN (fun xs H Q => ∃ p ys, xs = [V.ref p] ∧ (SqL K H p ys ∨ SqT K H p ys) ∧ ∀ l, H l = none → Q (.ref l) (upd H l (.lst ys))) lstG := by
  intro μ H m vs ds d Q ok r e q
  match ds, e with
  | [.tup l], e =>
    obtain ⟨v, rfl, r1⟩ := reps1 r
    cases (show some (D.lst l) = some d from e)
    cases r1 with
    | tup h hn rs => exact ⟨_, _, rfl, .inr (SqT.of h), fun b hb => q _ _ (post_new hb _) (ok.new hb _) (.lst upd_same (ok.free hb) (rs.grow (post_new hb _)))⟩
  | [.lst l], e =>
    obtain ⟨v, rfl, r1⟩ := reps1 r
    cases (show some (D.lst l) = some d from e)
    cases r1 with
    | lst h hn rs => exact ⟨_, _, rfl, .inl (SqL.of h), fun b hb => q _ _ (post_new hb _) (ok.new hb _) (.lst upd_same (ok.free hb) (rs.grow (post_new hb _)))⟩
  | [.mr k], e =>
    obtain ⟨v, rfl, r1⟩ := reps1 r
    have e : m[k]?.map D.lst = some d := e
    cases e1 : m[k]? with
    | none => rw [e1] at e; cases e
    | some l =>
      rw [e1] at e
      cases e
      cases r1 with
      | mr h =>
        obtain ⟨ws, hv, rs⟩ := ok.at_ k _ l h e1
        exact ⟨_, _, rfl, .inl (SqL.of hv), fun b hb => q _ _ (post_new hb _) (ok.new hb _) (.lst upd_same (ok.free hb) (rs.grow (post_new hb _)))⟩
def blsD : List D → Option (List Bool)
  | [] => some []
  | .bl b :: r => (blsD r).map fun bs => b :: bs
  | _ :: _ => none
theorem bls_rep {μ : Mu} {H : Hp} : ∀ {vs : List V} {ds : List D} {bs : List Bool}, Reps μ H vs ds → blsD ds = some bs → vs = bs.map V.bl
  | _, _, _, .nil, e => by cases Option.some.inj e; rfl
  | _, .bl b :: ds, bs, .cons r t, e => by
    cases r
    have e : (blsD ds).map (fun bs => b :: bs) = some bs := e
    cases e1 : blsD ds with
    | none => rw [e1] at e; cases e
    | some cs => rw [e1] at e; cases e; rw [bls_rep t e1]; rfl
def allG : GN := fun xs _ => match xs with | [.lst l] => (blsD l).map fun bs => .bl (bs.all id) | _ => none
theorem fits_all : FitsN (rAll K) allG := by
  intro μ H m vs ds d Q ok r e q
  match ds, e with
  | [.lst l], e =>
    obtain ⟨v, rfl, r1⟩ := reps1 r
    have e : (blsD l).map (fun bs => D.bl (bs.all id)) = some d := e
    cases e1 : blsD l with
    | none => rw [e1] at e; cases e
    | some bs =>
      rw [e1] at e
      cases e
      cases r1 with
      | lst h hn rs =>
        rw [bls_rep rs e1] at h
        exact ⟨_, bs, rfl, SqL.of h, q _ H (Post.refl _ _) ok (.bl _)⟩
variable {a b c : Expr} {fa fb fc : F} {pos p : Pos} {fs : FA}
theorem d_item (ha : PE X a (tD fa)) (hb : PE X b (tD fb)) (hs : PlainIx b := by intro _ _; rfl) : PE X (.Subscript a b pos) (tD (fBin ixG fa fb)) := d_ix ix_seq fits_ix ha hb hs
abbrev f1 (f : F) : FA := faCons f faNil
theorem d_len (hg : Gl X "len") (hm : X.mg "len" = none) (ha : PE X a (tD fa)) (he : starEach [a] X.env = (false, eval a X.env) :: starEach [] X.env := by rfl) : PE X (.Call (.Name "len" p) [a] [] pos) (tD (fApp lenG (f1 fa))) :=
  d_callB call_len fits_len hg hm PySem.boot_len (da_cons ha da_nil he) (by decide +kernel) (by decide +kernel) he rfl
theorem d_abs (hg : Gl X "abs") (hm : X.mg "abs" = none) (ha : PE X a (tD fa)) (he : starEach [a] X.env = (false, eval a X.env) :: starEach [] X.env := by rfl) : PE X (.Call (.Name "abs" p) [a] [] pos) (tD (fApp absG (f1 fa))) :=
  d_callB call_abs fits_abs hg hm (by decide +kernel) (da_cons ha da_nil he) (by decide +kernel) (by decide +kernel) he rfl
theorem d_ord (hg : Gl X "ord") (hm : X.mg "ord" = none) (ha : PE X a (tD fa)) (he : starEach [a] X.env = (false, eval a X.env) :: starEach [] X.env := by rfl) : PE X (.Call (.Name "ord" p) [a] [] pos) (tD (fApp ordG (f1 fa))) :=
  d_callB call_ord fits_ord hg hm (by decide +kernel) (da_cons ha da_nil he) (by decide +kernel) (by decide +kernel) he rfl
theorem d_all (hc : X.calm = true) (hg : Gl X "all") (hm : X.mg "all" = none) (ha : PE X a (tD fa)) (he : starEach [a] X.env = (false, eval a X.env) :: starEach [] X.env := by rfl) : PE X (.Call (.Name "all" p) [a] [] pos) (tD (fApp allG (f1 fa))) :=
  d_callB (cr_all hc) fits_all hg hm (by decide +kernel) (da_cons ha da_nil he) (by decide +kernel) (by decide +kernel) he rfl
theorem d_intC (hg : Gl X "int") (hm : X.mg "int" = none) (ha : PE X a (tD fa)) (he : starEach [a] X.env = (false, eval a X.env) :: starEach [] X.env := by rfl) : PE X (.Call (.Name "int" p) [a] [] pos) (tD (fApp intG (f1 fa))) :=
  d_callTy call_int1 fits_int hg hm (by decide +kernel) (da_cons ha da_nil he) (by decide +kernel) (by decide +kernel) he rfl
theorem d_strC (hg : Gl X "str") (hm : X.mg "str" = none) (ha : PE X a (tD fa)) (he : starEach [a] X.env = (false, eval a X.env) :: starEach [] X.env := by rfl) : PE X (.Call (.Name "str" p) [a] [] pos) (tD (fApp strG (f1 fa))) :=
  d_callTy call_str_int fits_str hg hm (by decide +kernel) (da_cons ha da_nil he) (by decide +kernel) (by decide +kernel) he rfl
theorem d_tupC (hg : Gl X "tuple") (hm : X.mg "tuple" = none) (ha : PE X a (tD fa)) (he : starEach [a] X.env = (false, eval a X.env) :: starEach [] X.env := by rfl) : PE X (.Call (.Name "tuple" p) [a] [] pos) (tD (fApp tupG (f1 fa))) :=
  d_callTy call_tuple_of fits_tup hg hm (by decide +kernel) (da_cons ha da_nil he) (by decide +kernel) (by decide +kernel) he rfl
theorem d_lstC (hg : Gl X "list") (hm : X.mg "list" = none) (ha : PE X a (tD fa)) (he : starEach [a] X.env = (false, eval a X.env) :: starEach [] X.env := by rfl) : PE X (.Call (.Name "list" p) [a] [] pos) (tD (fApp lstG (f1 fa))) :=
  d_callTy call_list_of fits_lst hg hm (by decide +kernel) (da_cons ha da_nil he) (by decide +kernel) (by decide +kernel) he rfl
end
end DL
end
section
set_option Elab.async false
set_option linter.all false
set_option maxRecDepth 100000
namespace DL
open PySem PySem.Spec PyProof.Rows L2
/-- what is free stays free, and as it is -/
structure Ke (μ : Mu) (H : Hp) (μ' : Mu) (H' : Hp) : Prop where
  l : ∃ ν, μ'.l = μ.l ++ ν
  k : ∀ a o, H a = some o → μ.Free a → μ'.Free a ∧ H' a = some o
theorem Ke.refl (μ : Mu) (H : Hp) : Ke μ H μ H := ⟨⟨[], by simp⟩, fun _ _ h f => ⟨f, h⟩⟩
theorem Ke.trans {μ μ1 μ2 : Mu} {H H1 H2 : Hp} (p : Ke μ H μ1 H1) (q : Ke μ1 H1 μ2 H2) : Ke μ H μ2 H2 := by
  obtain ⟨ν, e⟩ := p.l
  obtain ⟨ν', e'⟩ := q.l
  exact ⟨⟨ν ++ ν', by rw [e', e, List.append_assoc]⟩, fun a o h f => q.k a o (p.k a o h f).2 (p.k a o h f).1⟩
theorem Post.ke {μ μ' : Mu} {H H' : Hp} (p : Post μ H μ' H') : Ke μ H μ' H' := by
  obtain ⟨ν, rfl, hν⟩ := p.pre
  refine ⟨⟨ν, rfl⟩, fun a o h hn => ⟨⟨fun z => ?_, hn.2⟩, p.keep a o h hn.1⟩⟩
  rcases List.mem_append.mp z with z | z
  · exact hn.1 z
  · rw [hν a z] at h; cases h
theorem rep_ke {μ μ' : Mu} {H H' : Hp} (p : Ke μ H μ' H') :
    (∀ v d, Rep μ H v d → Rep μ' H' v d) ∧ (∀ vs ds, Reps μ H vs ds → Reps μ' H' vs ds) := by
  obtain ⟨ν, hl⟩ := p.l
  have hf := p.k
  refine ⟨fun v d r => ?_, fun vs ds r => ?_⟩
  · exact Rep.rec (motive_1 := fun v d _ => Rep μ' H' v d) (motive_2 := fun vs ds _ => Reps μ' H' vs ds)
      .non .bl .int .str (fun h hn _ ih => .tup (hf _ _ h hn).2 (hf _ _ h hn).1 ih) (fun h hn _ ih => .lst (hf _ _ h hn).2 (hf _ _ h hn).1 ih) (fun h => .mr (by rw [hl]; exact get_pre h)) .nil (fun _ _ ih1 ih2 => .cons ih1 ih2) r
  · exact Reps.rec (motive_1 := fun v d _ => Rep μ' H' v d) (motive_2 := fun vs ds _ => Reps μ' H' vs ds)
      .non .bl .int .str (fun h hn _ ih => .tup (hf _ _ h hn).2 (hf _ _ h hn).1 ih) (fun h hn _ ih => .lst (hf _ _ h hn).2 (hf _ _ h hn).1 ih) (fun h => .mr (by rw [hl]; exact get_pre h)) .nil (fun _ _ ih1 ih2 => .cons ih1 ih2) r
theorem Rep.ke {μ μ' : Mu} {H H' : Hp} {v : V} {d : D} (r : Rep μ H v d) (p : Ke μ H μ' H') : Rep μ' H' v d := (rep_ke p).1 v d r
theorem Reps.ke {μ μ' : Mu} {H H' : Hp} {vs : List V} {ds : List D} (r : Reps μ H vs ds) (p : Ke μ H μ' H') : Reps μ' H' vs ds := (rep_ke p).2 vs ds r
theorem REnv.ke {μ μ' : Mu} {H H' : Hp} {σ : L2.St} {ε : Ev} (r : REnv μ H σ ε) (p : Ke μ H μ' H') : REnv μ' H' σ ε :=
  ⟨r.len, fun i d e => let ⟨v, e1, r1⟩ := r.at_ i d e; ⟨v, e1, r1.ke p⟩⟩
/-! ### what is walked -/
structure DWalk (μ : Mu) (H : Hp) (J : It) (ds : List D) : Prop where
  ex : ∃ (G : Hp → Prop) (Y : Nat → Hp → V → Hp → Prop), Walk J ds.length G Y ∧ (∀ μ2 H2, Ke μ H μ2 H2 → G H2) ∧
    ∀ i μ2 H2 v H3 m2, Ke μ H μ2 H2 → MOk μ2 H2 m2 → i < ds.length → Y i H2 v H3 → Post μ2 H2 μ2 H3 ∧ MOk μ2 H3 m2 ∧ ∃ d, ds[i]? = some d ∧ Rep μ2 H3 v d
theorem Reps.get' {μ : Mu} {H : Hp} {vs : List V} {ds : List D} {i : Nat} {v : V} (r : Reps μ H vs ds) (h : vs[i]? = some v) : ∃ d, ds[i]? = some d ∧ Rep μ H v d := by
  have hi : i < ds.length := by rw [← r.length]; exact (List.getElem?_eq_some_iff.mp h).1
  obtain ⟨w, h1, h2⟩ := r.get (List.getElem?_eq_getElem hi)
  rw [h] at h1
  cases h1
  exact ⟨_, List.getElem?_eq_getElem hi, h2⟩
theorem dwalk_tup {K : PySem.W.Frag} {μ : Mu} {H : Hp} {a : Addr} {vs : List V} {ds : List D} (h : H a = some (.tup vs)) (hn : μ.Free a) (rs : Reps μ H vs ds) : DWalk μ H (Itt K a) ds := by
  refine ⟨fun H => SqT K H a vs, YAt vs, by rw [← rs.length]; exact walk_tup, fun μ2 H2 p => SqT.of (p.k a _ h hn).2, fun i μ2 H2 v H3 m2 p ok hi y => ?_⟩
  obtain ⟨rfl, y⟩ := y
  exact ⟨Post.refl _ _, ok, (rs.ke p).get' y⟩
theorem dwalk_lst {K : PySem.W.Frag} {μ : Mu} {H : Hp} {a : Addr} {vs : List V} {ds : List D} (h : H a = some (.lst vs)) (hn : μ.Free a) (rs : Reps μ H vs ds) : DWalk μ H (Itl K a) ds := by
  refine ⟨fun H => SqL K H a vs, YAt vs, by rw [← rs.length]; exact walk_list, fun μ2 H2 p => SqL.of (p.k a _ h hn).2, fun i μ2 H2 v H3 m2 p ok hi y => ?_⟩
  obtain ⟨rfl, y⟩ := y
  exact ⟨Post.refl _ _, ok, (rs.ke p).get' y⟩
def signsD (s : Str) : List D := s.cps.toList.map fun c => .str ⟨#[c]⟩
theorem dwalk_str {μ : Mu} {H : Hp} {s : Str} : DWalk μ H (Its s) (signsD s) := by
  refine ⟨fun _ => True, _, by rw [show (signsD s).length = s.cps.size by simp [signsD]]; exact walk_str, fun _ _ _ => trivial, fun i μ2 H2 v H3 m2 p ok hi y => ?_⟩
  obtain ⟨rfl, c, hc, rfl⟩ := y
  refine ⟨Post.refl _ _, ok, .str ⟨#[c]⟩, ?_, .str _⟩
  unfold signsD
  rw [List.getElem?_map]
  have : s.cps.toList[i]? = some c := by rw [← hc]; simp
  rw [this]
  rfl
def rngD (lo : Int) (n : Nat) : List D := (List.range n).map fun (i : Nat) => .int (lo + (i : Int))
theorem dwalk_range {μ : Mu} {H : Hp} {lo : Int} {n : Nat} : DWalk μ H (Itr lo n) (rngD lo n) := by
  refine ⟨fun _ => True, _, by rw [show (rngD lo n).length = n by simp [rngD]]; exact walk_range, fun _ _ _ => trivial, fun i μ2 H2 v H3 m2 p ok hi y => ?_⟩
  obtain ⟨rfl, rfl⟩ := y
  refine ⟨Post.refl _ _, ok, .int (lo + (i : Int)), ?_, .int _⟩
  unfold rngD at hi ⊢
  rw [List.getElem?_map, List.getElem?_range (by simpa using hi)]
  rfl
abbrev FI := Ev → M → Option (List D × M)
def tDI (f : FI) : TI := fun σ H R => ∃ μ ε m ds m', REnv μ H σ ε ∧ MOk μ H m ∧ f ε m = some (ds, m') ∧ ∀ J H', Post μ H μ H' → MOk μ H' m' → DWalk μ H' J ds → R J H'
def itemsD : D → Option (List D)
  | .tup l => some l
  | .lst l => some l
  | .str s => some (signsD s)
  | _ => none
def fItems (f : F) : FI := fun ε m => (f ε m).bind fun p => (itemsD p.1).map fun ds => (ds, p.2)
def fRng1 (f : F) : FI := fun ε m => (f ε m).bind fun p => match p.1 with
  | .int j => if -(2 ^ 62) ≤ j ∧ j < 2 ^ 62 then some (rngD 0 j.toNat, p.2) else none
  | _ => none
section
variable {X : Cx} {a b c : Expr} {fa fb fc : F} {pos : Pos} {tg : Expr}
theorem di_seq (ha : PE X a (tD fa)) : PI X tg a (tDI (fItems fa)) := by
  refine ⟨fun pins s σ H R I ⟨μ, ε, m, ds, m', re, ok, e, q⟩ => ?_⟩
  unfold fItems at e
  cases e1 : fa ε m with
  | none => rw [e1] at e; cases e
  | some p =>
    obtain ⟨d, m1⟩ := p
    rw [e1] at e
    simp only [Option.bind_some] at e
    cases d with
    | tup l =>
      simp [itemsD] at e
      obtain ⟨rfl, rfl⟩ := e
      refine (pi_tup ha).run pins s σ H R I (tD.step re ok e1 fun v H1 p1 ok1 re1 r1 => ?_)
      cases r1 with
      | tup h hn rs => exact ⟨_, rfl, ⟨_, SqT.of h⟩, q _ H1 p1 ok1 (dwalk_tup h hn rs)⟩
    | lst l =>
      simp [itemsD] at e
      obtain ⟨rfl, rfl⟩ := e
      refine (pi_list ha).run pins s σ H R I (tD.step re ok e1 fun v H1 p1 ok1 re1 r1 => ?_)
      cases r1 with
      | lst h hn rs => exact ⟨_, rfl, ⟨_, SqL.of h⟩, q _ H1 p1 ok1 (dwalk_lst h hn rs)⟩
    | str z =>
      simp [itemsD] at e
      obtain ⟨rfl, rfl⟩ := e
      refine (pi_str ha).run pins s σ H R I (tD.step re ok e1 fun v H1 p1 ok1 re1 r1 => ?_)
      cases r1 with
      | str s => exact ⟨_, rfl, q _ H1 p1 ok1 dwalk_str⟩
    | _ => simp [itemsD] at e
theorem di_range1 {p : Pos} (hg : Gl X "range") (hm : X.mg "range" = none) (ha : PE X a (tD fa)) (hs : starEach [a] X.env = (false, eval a X.env) :: starEach [] X.env := by rfl) : PI X tg (.Call (.Name "range" p) [a] [] pos) (tDI (fRng1 fa)) := by
  refine ⟨fun pins s σ H R I ⟨μ, ε, m, ds, m', re, ok, e, q⟩ => ?_⟩
  unfold fRng1 at e
  cases e1 : fa ε m with
  | none => rw [e1] at e; cases e
  | some p =>
    obtain ⟨d, m1⟩ := p
    rw [e1] at e
    simp only [Option.bind_some] at e
    cases d with
    | int j =>
      have e : (if -(2 ^ 62) ≤ j ∧ j < 2 ^ 62 then some (rngD 0 j.toNat, m1) else none) = some (ds, m') := e
      split at e
      · rename_i hl
        simp at e
        obtain ⟨rfl, rfl⟩ := e
        refine (pi_range1 hg hm (pa_cons ha pa_nil hs) hs).run pins s σ H R I (tD.step re ok e1 fun v H1 p1 ok1 re1 r1 => ?_)
        cases r1
        exact ⟨j, rfl, hl.1, hl.2, q _ H1 p1 ok1 dwalk_range⟩
      · cases e
    | _ => cases e
end
/-! ### targets -/
abbrev StD := D → Ev → Option Ev
def GFits (g : TG) (st : StD) (is : List Nat) : Prop := ∀ (μ : Mu) (H : Hp) (v : V) (d : D) (σ : L2.St) (ε ε' : Ev) (Q : L2.St → Hp → Prop), Rep μ H v d → REnv μ H σ ε → st d ε = some ε' →
  (∀ σ', REnv μ H σ' ε' → σ'.length = σ.length → (∀ j, j ∉ is → σ'[j]? = σ[j]?) → Q σ' H) → g v σ H Q
def GsFits (g : TGs) (st : List D → Ev → Option Ev) (is : List Nat) : Prop := ∀ (μ : Mu) (H : Hp) (v : List V) (d : List D) (σ : L2.St) (ε ε' : Ev) (Q : L2.St → Hp → Prop), Reps μ H v d → REnv μ H σ ε → st d ε = some ε' →
  (∀ σ', REnv μ H σ' ε' → σ'.length = σ.length → (∀ j, j ∉ is → σ'[j]? = σ[j]?) → Q σ' H) → g v σ H Q
def stN (i : Nat) : StD := fun d ε => some (ε.set i (some d))
theorem g_name {i : Nat} : GFits (gName i) (stN i) [i] := by
  intro μ H v d σ ε ε' Q r re e q
  cases e
  refine q _ (re.set r i) (by simp) fun j hj => ?_
  rw [List.getElem?_set_ne (by intro z; subst z; simp at hj)]
def stsN : List D → Ev → Option Ev := fun ds ε => match ds with | [] => some ε | _ => none
def stsC (st : StD) (r : List D → Ev → Option Ev) : List D → Ev → Option Ev := fun ds ε => match ds with | d :: ds => (st d ε).bind (r ds) | _ => none
theorem gs_nil : GsFits gNil stsN [] := by
  intro μ H v d σ ε ε' Q r re e q
  cases r with
  | nil => cases e; exact ⟨rfl, q σ re rfl fun _ _ => rfl⟩
  | cons _ _ => cases e
theorem gs_cons {t : TG} {u : TGs} {st : StD} {r : List D → Ev → Option Ev} {is js : List Nat} (h1 : GFits t st is) (h2 : GsFits u r js) : GsFits (gCons t u) (stsC st r) (is ++ js) := by
  intro μ H v d σ ε ε' Q rs re e q
  cases rs with
  | nil => cases e
  | @cons v d vs ds rv rs =>
    have e : (st d ε).bind (r ds) = some ε' := e
    cases e1 : st d ε with
    | none => rw [e1] at e; cases e
    | some ε1 =>
      rw [e1] at e
      refine ⟨v, vs, rfl, h1 μ H v d σ ε ε1 _ rv re e1 fun σ1 re1 l1 k1 => h2 μ H vs ds σ1 ε1 ε' _ rs re1 e fun σ2 re2 l2 k2 => ?_⟩
      refine q σ2 re2 (l2.trans l1) fun j hj => ?_
      rw [k2 j fun z => hj (List.mem_append_right _ z), k1 j fun z => hj (List.mem_append_left _ z)]
def stT (n : Nat) (st : List D → Ev → Option Ev) : StD := fun d ε => match d with | .tup ds => if ds.length = n then st ds ε else none | _ => none
theorem g_tup {K : PySem.W.Frag} {n : Nat} {t : TGs} {st : List D → Ev → Option Ev} {is : List Nat} (h : GsFits t st is) : GFits (gTup K n t) (stT n st) is := by
  intro μ H v d σ ε ε' Q r re e q
  cases r with
  | @tup a vs ds ha hn rs =>
    have e : (if ds.length = n then st ds ε else none) = some ε' := e
    split at e
    · rename_i hl
      exact ⟨_, _, rfl, SqT.of ha, by rw [rs.length, hl], h μ H vs ds σ ε ε' Q rs re e q⟩
    · cases e
  | _ => cases e
/-! ### statements -/
inductive Out where
  | nx (ε : Ev) (m : M) | rt (d : D) (m : M) | bk (ε : Ev) (m : M) | ct (ε : Ev) (m : M) | rn (ds : List D) (m : M)
abbrev FS := Ev → M → Option Out
def Fin (D : Ends) (μ : Mu) (H : Hp) : Out → Prop
  | .nx ε m => ∀ μ' σ' H', Post μ H μ' H' → REnv μ' H' σ' ε → MOk μ' H' m → D.nx σ' H'
  | .rt d m => ∀ μ' v H', Post μ H μ' H' → MOk μ' H' m → Rep μ' H' v d → D.rt v H'
  | .bk ε m => ∀ μ' σ' H', Post μ H μ' H' → REnv μ' H' σ' ε → MOk μ' H' m → D.bk σ' H'
  | .ct ε m => ∀ μ' σ' H', Post μ H μ' H' → REnv μ' H' σ' ε → MOk μ' H' m → D.ct σ' H'
  | .rn ds m => ∀ μ' p H' vs, Post μ H μ' H' → MOk μ' H' m → H p = none → H' p = some (.lst vs) → μ'.Free p → Reps μ' H' vs ds → D.rt (.ref p) H'
theorem Post.free {μ μ' : Mu} {H H' : Hp} {a : Addr} (p : Post μ H μ' H') (h : H' a = none) : H a = none := by
  cases e : H a with
  | none => rfl
  | some o =>
    obtain ⟨o', e'⟩ := p.dom a o e
    rw [h] at e'; cases e'
theorem Fin.grow {D : Ends} {μ μ' : Mu} {H H' : Hp} {o : Out} (f : Fin D μ H o) (p : Post μ H μ' H') : Fin D μ' H' o := by
  cases o with
  | nx ε m => exact fun μ2 σ2 H2 q => f μ2 σ2 H2 (p.trans q)
  | rt d m => exact fun μ2 σ2 H2 q => f μ2 σ2 H2 (p.trans q)
  | bk ε m => exact fun μ2 σ2 H2 q => f μ2 σ2 H2 (p.trans q)
  | ct ε m => exact fun μ2 σ2 H2 q => f μ2 σ2 H2 (p.trans q)
  | rn ds m => exact fun μ2 a H2 vs q ok hn => f μ2 a H2 vs (p.trans q) ok (p.free hn)
def tDS (f : FS) : TS := fun D σ H => ∃ μ ε m o, REnv μ H σ ε ∧ MOk μ H m ∧ f ε m = some o ∧ Fin D μ H o
def sNx : FS := fun ε m => some (.nx ε m)
def sSeq (f g : FS) : FS := fun ε m => (f ε m).bind fun o => match o with | .nx ε' m' => g ε' m' | o => some o
section
variable {X : Cx} {a b c : Expr} {fa fb fc : F} {pos : Pos} {s1 : Stmt} {rest : List Stmt} {f g : FS}
theorem ds_nil : PSs X [] (tDS sNx) := PSs.weak pss_nil fun D σ H ⟨μ, ε, m, o, re, ok, e, q⟩ => by cases e; exact q μ σ H (Post.refl _ _) re ok
def sNo : FS := fun _ _ => none
theorem ds_no : PS X s1 (tDS sNo) := PS.weak ps_never fun D σ H ⟨μ, ε, m, o, re, ok, e, q⟩ => by cases e
theorem ds_one (h : PS X s1 (tDS f)) : PSs X [s1] (tDS f) := pss_one h
theorem ds_cons (h1 : PS X s1 (tDS f)) (h2 : PSs X rest (tDS g)) : PSs X (s1 :: rest) (tDS (sSeq f g)) := by
  refine PSs.weak (pss_cons h1 h2) fun D σ H ⟨μ, ε, m, o, re, ok, e, q⟩ => ?_
  unfold sSeq at e
  cases e1 : f ε m with
  | none => rw [e1] at e; cases e
  | some o1 =>
    rw [e1] at e
    simp only [Option.bind_some] at e
    refine ⟨μ, ε, m, o1, re, ok, e1, ?_⟩
    cases o1 with
    | nx ε' m' => exact fun μ1 σ1 H1 p1 re1 ok1 => ⟨μ1, ε', m', o, re1, ok1, e, q.grow p1⟩
    | rt d m' => cases e; exact q
    | bk ε' m' => cases e; exact q
    | ct ε' m' => cases e; exact q
    | rn ds m' => cases e; exact q
theorem ds_pass : PS X (.Pass pos) (tDS sNx) := PS.weak ps_pass fun D σ H ⟨μ, ε, m, o, re, ok, e, q⟩ => by cases e; exact q μ σ H (Post.refl _ _) re ok
def sRet (f : F) : FS := fun ε m => (f ε m).map fun p => .rt p.1 p.2
theorem ds_ret (ha : PE X a (tD fa)) : PS X (.Return (some a) pos) (tDS (sRet fa)) := by
  refine PS.weak (ps_ret ha) fun D σ H ⟨μ, ε, m, o, re, ok, e, q⟩ => ?_
  unfold sRet at e
  cases e1 : fa ε m with
  | none => rw [e1] at e; cases e
  | some p =>
    rw [e1] at e
    cases e
    exact tD.step re ok e1 fun v H1 p1 ok1 re1 r1 => q μ v H1 p1 ok1 r1
def sSet (i : Nat) (f : F) : FS := fun ε m => (f ε m).map fun p => .nx (ε.set i (some p.1)) p.2
theorem ds_set {i : Nat} {x : Str} {e : Expr} {fe : F} {pos' : Pos} (hN : X.N.Nodup) (hi : X.N[i]? = some x) (hx : Loc X.env.scope x) (he : PE X e (tD fe)) (hs : swapsWith e (some (.Name x pos')) pos.line X.env = pure false := by rfl)
    (hf : X.fn x = true ∨ X.env.scope.names.lookup x = some .local := by first | exact .inl rfl | exact .inr rfl | assumption) : PS X (.Assign [.Name x pos'] e pos) (tDS (sSet i fe)) := by
  refine PS.weak (ps_set hN hi hx he hs hf) fun D σ H ⟨μ, ε, m, o, re, ok, e, q⟩ => ?_
  unfold sSet at e
  cases e1 : fe ε m with
  | none => rw [e1] at e; cases e
  | some p =>
    rw [e1] at e
    cases e
    exact tD.step re ok e1 fun v H1 p1 ok1 re1 r1 => q μ _ H1 p1 (re1.set r1 i) ok1
def sExp (f : F) : FS := fun ε m => (f ε m).map fun p => .nx ε p.2
theorem ds_expr (ha : PE X a (tD fa)) (hs : swapsWith a none pos.line X.env = pure false := by rfl) : PS X (.Expr a pos) (tDS (sExp fa)) := by
  refine PS.weak (ps_expr ha hs) fun D σ H ⟨μ, ε, m, o, re, ok, e, q⟩ => ?_
  unfold sExp at e
  cases e1 : fa ε m with
  | none => rw [e1] at e; cases e
  | some p =>
    rw [e1] at e
    cases e
    exact tD.step re ok e1 fun v H1 p1 ok1 re1 r1 => q μ _ H1 p1 re1 ok1
def sIf (t : FT) (f g : FS) : FS := fun ε m => (t ε m).bind fun p => if p.1 = true then f ε p.2 else g ε p.2
theorem ds_if {t : FT} {b1 b2 : List Stmt} (hc : PT X c (tDT t)) (ha : PSs X b1 (tDS f)) (hb : PSs X b2 (tDS g)) : PS X (.If c b1 b2 pos) (tDS (sIf t f g)) := by
  refine PS.weak (ps_if hc ha hb) fun D σ H ⟨μ, ε, m, o, re, ok, e, q⟩ => ?_
  unfold sIf at e
  cases e1 : t ε m with
  | none => rw [e1] at e; cases e
  | some p =>
    obtain ⟨k, m1⟩ := p
    rw [e1] at e
    simp only [Option.bind_some] at e
    refine tDT.step re ok e1 fun H1 p1 ok1 re1 => ?_
    cases k with
    | true => rw [if_pos rfl] at e ⊢; exact ⟨μ, ε, m1, o, re1, ok1, e, q.grow p1⟩
    | false => rw [if_neg Bool.false_ne_true] at e ⊢; exact ⟨μ, ε, m1, o, re1, ok1, e, q.grow p1⟩
/-! ### a for -/
def loopD (st : StD) (body : FS) : List D → Ev → M → Option Out
  | [], ε, m => some (.nx ε m)
  | d :: r, ε, m => (st d ε).bind fun ε1 => (body ε1 m).bind fun o => match o with
    | .nx ε' m' => loopD st body r ε' m'
    | .ct ε' m' => loopD st body r ε' m'
    | .bk ε' m' => some (.nx ε' m')
    | .rt d m' => some (.rt d m')
    | .rn ds m' => some (.rn ds m')
def sFor (fi : FI) (st : StD) (body : FS) : FS := fun ε m => (fi ε m).bind fun p => loopD st body p.1 ε p.2
theorem ds_for {iter tg : Expr} {body : List Stmt} {fi : FI} {gt : TG} {st : StD} {is : List Nat} (hp : PassesOwn (model X.prog X.w) X.A X.env X.xe) (hc : X.calm = true) (hi : PI X tg iter (tDI fi)) (hg : PG X tg gt) (hgf : GFits gt st is) (hb : PSs X body (tDS f))
    (hs : ∀ x, foldedSetIterable iter X.env x = pure x := by intro _; rfl) : PS X (.For tg iter body [] pos) (tDS (sFor fi st f)) := by
  refine PS.weak (ps_for hp hc hi hg hb hs) fun D σ H ⟨μ, ε, m, o, re, ok, e, q⟩ => ?_
  unfold sFor at e
  cases e1 : fi ε m with
  | none => rw [e1] at e; cases e
  | some p =>
    obtain ⟨ds, m1⟩ := p
    rw [e1] at e
    simp only [Option.bind_some] at e
    refine ⟨μ, ε, m, ds, m1, re, ok, e1, fun J H1 p1 ok1 w => ?_⟩
    obtain ⟨G, Y, W, hG, hY⟩ := w.ex
    have q1 := q.grow p1
    have re1 := re.grow p1
    refine for_it W (fun i σ2 H2 => ∃ μ2 ε2 m2, Post μ H1 μ2 H2 ∧ REnv μ2 H2 σ2 ε2 ∧ MOk μ2 H2 m2 ∧ loopD st f (ds.drop i) ε2 m2 = some o) ⟨μ, ε, m1, Post.refl _ _, re1, ok1, e⟩ (fun i σ2 H2 _ ⟨μ2, ε2, m2, p2, _⟩ => hG μ2 H2 p2.ke) (fun i x σ2 H2 H3 hi2 ⟨μ2, ε2, m2, p2, re2, ok2, e2⟩ y => ?_) (fun σ2 H2 ⟨μ2, ε2, m2, p2, re2, ok2, e2⟩ => ?_)
    · obtain ⟨p3, ok3, d, hd, rd⟩ := hY i μ2 H2 x H3 m2 p2.ke ok2 hi2 y
      have hd2 : ds.drop i = d :: ds.drop (i + 1) := by
        obtain ⟨hlt, he⟩ := List.getElem?_eq_some_iff.mp hd
        rw [← he]
        exact List.drop_eq_getElem_cons hlt
      rw [hd2] at e2
      unfold loopD at e2
      cases e3 : st d ε2 with
      | none => rw [e3] at e2; cases e2
      | some ε3 =>
        rw [e3] at e2
        simp only [Option.bind_some] at e2
        refine hgf μ2 H3 x d σ2 ε2 ε3 _ rd (re2.grow p3) e3 fun σ4 re4 _ _ => ?_
        cases e5 : f ε3 m2 with
        | none => rw [e5] at e2; cases e2
        | some o5 =>
          rw [e5] at e2
          simp only [Option.bind_some] at e2
          refine ⟨μ2, ε3, m2, o5, re4, ok3, e5, ?_⟩
          have pp := p2.trans p3
          cases o5 with
          | nx ε' m' => exact fun μ6 σ6 H6 p6 re6 ok6 => ⟨μ6, ε', m', pp.trans p6, re6, ok6, e2⟩
          | ct ε' m' => exact fun μ6 σ6 H6 p6 re6 ok6 => ⟨μ6, ε', m', pp.trans p6, re6, ok6, e2⟩
          | bk ε' m' => cases e2; exact fun μ6 σ6 H6 p6 re6 ok6 => q1 μ6 σ6 H6 (pp.trans p6) re6 ok6
          | rt d' m' => cases e2; exact fun μ6 v H6 p6 ok6 r6 => q1 μ6 v H6 (pp.trans p6) ok6 r6
          | rn es m' => cases e2; exact fun μ6 a H6 vs p6 ok6 hn => q1 μ6 a H6 vs (pp.trans p6) ok6 (pp.free hn)
    · rw [List.drop_length] at e2
      cases e2
      exact q1 μ2 σ2 H2 p2 re2 ok2
end
end DL
end
section
set_option Elab.async false
set_option linter.all false
set_option maxRecDepth 100000
namespace DL
open PySem PySem.Spec PyProof.Rows L2
/-! ### comprehensions -/
def wipeE (ε : Ev) : List Nat → Ev
  | [] => ε
  | v :: vs => (wipeE ε vs).set v none
theorem REnv.drop {μ : Mu} {H : Hp} {σ : L2.St} {ε : Ev} (r : REnv μ H σ ε) (i : Nat) : REnv μ H (σ.set i none) (ε.set i none) := by
  refine ⟨by simp [r.len], fun j e h => ?_⟩
  rw [List.getElem?_set] at h ⊢
  split at h
  · split at h <;> cases h
  · rename_i hij
    obtain ⟨w, e1, r1⟩ := r.at_ j e h
    exact ⟨w, by rw [if_neg hij]; exact e1, r1⟩
theorem REnv.wipe {μ : Mu} {H : Hp} {σ : L2.St} {ε : Ev} (r : REnv μ H σ ε) : ∀ vs, REnv μ H (wipe σ vs) (wipeE ε vs)
  | [] => r
  | v :: vs => (REnv.wipe r vs).drop v
theorem wipe_get (σ : L2.St) (j : Nat) : ∀ vs : List Nat, j ∉ vs → (wipe σ vs)[j]? = σ[j]?
  | [], _ => rfl
  | v :: vs, h => by
    show ((wipe σ vs).set v none)[j]? = _
    rw [List.getElem?_set_ne (fun z => h (by rw [z]; exact List.mem_cons_self)), wipe_get σ j vs fun z => h (List.mem_cons_of_mem _ z)]
theorem wipe_in (σ : L2.St) (j : Nat) : ∀ vs : List Nat, j ∈ vs → j < σ.length → (wipe σ vs)[j]? = some none
  | v :: vs, h, hl => by
    show ((wipe σ vs).set v none)[j]? = _
    by_cases e : v = j
    · subst e
      rw [List.getElem?_set_self (by rw [wipe_length]; exact hl)]
    · rw [List.getElem?_set_ne e]
      exact wipe_in σ j vs ((List.mem_cons.mp h).resolve_left fun z => e z.symm) hl
theorem wipe_eq {σ σ' : L2.St} {vs : List Nat} (hl : σ'.length = σ.length) (h : ∀ j, j ∉ vs → σ'[j]? = σ[j]?) : wipe σ' vs = wipe σ vs := by
  apply List.ext_getElem?
  intro j
  by_cases hj : j ∈ vs
  · by_cases hlt : j < σ.length
    · rw [wipe_in σ' j vs hj (by rw [hl]; exact hlt), wipe_in σ j vs hj hlt]
    · rw [List.getElem?_eq_none (by rw [wipe_length]; omega), List.getElem?_eq_none (by rw [wipe_length]; omega)]
  · rw [wipe_get σ' j vs hj, wipe_get σ j vs hj, h j hj]
theorem wipe_wipe {σ : L2.St} {vs : List Nat} : wipe (wipe σ vs) vs = wipe σ vs := wipe_eq (wipe_length σ vs) fun j hj => wipe_get σ j vs hj
/-- a fresh list, hidden -/
def hideM (μ : Mu) (a : Addr) : Mu := ⟨μ.l, a :: μ.h⟩
theorem ke_hide {μ : Mu} {H : Hp} {a : Addr} (hn : H a = none) (o : HO) : Ke μ H (hideM μ a) (upd H a o) :=
  ⟨⟨[], by simp [hideM]⟩, fun b u h f => ⟨⟨f.1, fun z => by
    rcases List.mem_cons.mp z with z | z
    · subst z; rw [hn] at h; cases h
    · exact f.2 z⟩, by rw [upd_ne (ne_of_none h hn)]; exact h⟩⟩
/-- what is hidden is written -/
theorem ke_write {μ : Mu} {H : Hp} {a : Addr} (o : HO) : Ke (hideM μ a) H (hideM μ a) (upd H a o) :=
  ⟨⟨[], by simp⟩, fun b u h f => ⟨f, by rw [upd_ne (fun z => f.2 (by rw [z]; exact List.mem_cons_self))]; exact h⟩⟩
theorem ke_show {μ : Mu} {H : Hp} {a : Addr} : Ke (hideM μ a) H μ H :=
  ⟨⟨[], by simp [hideM]⟩, fun b u h f => ⟨⟨f.1, fun z => f.2 (List.mem_cons_of_mem _ z)⟩, h⟩⟩
theorem MOk.hide {μ : Mu} {H : Hp} {m : M} (ok : MOk μ H m) {a : Addr} (hn : H a = none) (o : HO) : MOk (hideM μ a) (upd H a o) m := by
  refine ⟨ok.nd, ok.len, fun k b ds h1 h2 => ?_, fun b hb => ?_⟩
  · obtain ⟨vs, e, r⟩ := ok.at_ k b ds h1 h2
    exact ⟨vs, by rw [upd_ne (ne_of_none e hn)]; exact e, r.ke (ke_hide hn o)⟩
  · rcases List.mem_cons.mp hb with rfl | hb
    · exact ⟨(ok.free hn).1, o, upd_same⟩
    · obtain ⟨n, u, e⟩ := ok.hid b hb
      exact ⟨n, u, by rw [upd_ne (ne_of_none e hn)]; exact e⟩
theorem MOk.write {μ : Mu} {H : Hp} {m : M} {a : Addr} (ok : MOk (hideM μ a) H m) (o : HO) : MOk (hideM μ a) (upd H a o) m := by
  have ha := ok.hid a List.mem_cons_self
  refine ⟨ok.nd, ok.len, fun k b ds h1 h2 => ?_, fun b hb => ?_⟩
  · obtain ⟨vs, e, r⟩ := ok.at_ k b ds h1 h2
    have hne : b ≠ a := fun z => ha.1 (by rw [← z]; exact List.mem_of_getElem? h1)
    exact ⟨vs, by rw [upd_ne hne]; exact e, r.ke (ke_write o)⟩
  · obtain ⟨n, u, e⟩ := ok.hid b hb
    by_cases hba : b = a
    · subst hba; exact ⟨n, o, upd_same⟩
    · exact ⟨n, u, by rw [upd_ne hba]; exact e⟩
theorem MOk.show {μ : Mu} {H : Hp} {m : M} {a : Addr} (ok : MOk (hideM μ a) H m) : MOk μ H m :=
  ⟨ok.nd, ok.len, fun k b ds h1 h2 => by
    obtain ⟨vs, e, r⟩ := ok.at_ k b ds h1 h2
    exact ⟨vs, e, r.ke ke_show⟩, fun b hb => ok.hid b (List.mem_cons_of_mem _ hb)⟩
/-- one clause: st stores, t tests, f is the element -/
def lcD (st : StD) (t : FT) (f : F) (ε : Ev) : List D → List D → M → Option (List D × M)
  | [], out, m => some (out, m)
  | d :: r, out, m => (st d ε).bind fun ε1 => (t ε1 m).bind fun p => if p.1 = true then (f ε1 p.2).bind fun q => if out.length < sizeLine then lcD st t f ε r (out ++ [q.1]) q.2 else none else lcD st t f ε r out p.2
def fLcN (fi : FI) (st : StD) (t : FT) (f : F) (vs : List Nat) : FI := fun ε m => (fi ε m).bind fun p => lcD st t f (wipeE ε vs) p.1 [] p.2
def fLc (fi : FI) (st : StD) (t : FT) (f : F) (vs : List Nat) : F := fun ε m => (fLcN fi st t f vs ε m).map fun p => (.lst p.1, p.2)
def fYes : FT := fun _ m => some (true, m)
/-- what holds at a turn of a comprehension: base (μ, H1), the new list at L; Hb: a heap since when the names stand -/
structure LcI (μ : Mu) (H1 : Hp) (L : Addr) (Hb : Hp) (H : Hp) (out : List D) (m : M) : Prop where
  ke : Ke μ H1 (hideM μ L) H
  kb : Ke (hideM μ L) Hb (hideM μ L) H
  po : Post μ H1 μ H
  ok : MOk (hideM μ L) H m
  at_ : ∃ acc, H L = some (.lst acc) ∧ Reps (hideM μ L) H acc out
theorem lcI_start {μ : Mu} {H1 : Hp} {L : Addr} {m : M} (ok : MOk μ H1 m) (hn : H1 L = none) : LcI μ H1 L (upd H1 L (.lst [])) (upd H1 L (.lst [])) [] m :=
  ⟨ke_hide hn _, Ke.refl _ _, post_new hn _, ok.hide hn _, [], upd_same, .nil⟩
theorem LcI.rebase {μ : Mu} {H1 Hb H : Hp} {L : Addr} {out : List D} {m : M} (i : LcI μ H1 L Hb H out m) : LcI μ H1 L H H out m := ⟨i.ke, Ke.refl _ _, i.po, i.ok, i.at_⟩
theorem LcI.debase {μ : Mu} {H1 Hb Hc H : Hp} {L : Addr} {out : List D} {m : M} (i : LcI μ H1 L Hc H out m) (k : Ke (hideM μ L) Hb (hideM μ L) Hc) : LcI μ H1 L Hb H out m := ⟨i.ke, k.trans i.kb, i.po, i.ok, i.at_⟩
/-- the heap grows within a turn -/
theorem LcI.grow {μ : Mu} {H1 Hb H H2 : Hp} {L : Addr} {out : List D} {m m2 : M} (i : LcI μ H1 L Hb H out m) (p : Post (hideM μ L) H (hideM μ L) H2) (ok2 : MOk (hideM μ L) H2 m2) : LcI μ H1 L Hb H2 out m2 := by
  obtain ⟨acc, hL, rs⟩ := i.at_
  have nl : L ∉ μ.l := (i.ok.hid L List.mem_cons_self).1
  refine ⟨i.ke.trans p.ke, i.kb.trans p.ke, ⟨⟨[], by simp, by simp⟩, fun a o h hn => p.keep a o (i.po.keep a o h hn) hn, fun a o h => ?_⟩, ok2, acc, p.keep L _ hL nl, rs.ke p.ke⟩
  obtain ⟨o1, e1⟩ := i.po.dom a o h
  exact p.dom a o1 e1
/-- an item more -/
theorem LcI.app {μ : Mu} {H1 Hb H : Hp} {L : Addr} {out : List D} {m : M} {y : V} {d : D} {acc : List V} (hn : H1 L = none) (i : LcI μ H1 L Hb H out m) (hL : H L = some (.lst acc)) (ry : Rep (hideM μ L) H y d) : LcI μ H1 L Hb (upd H L (.lst (acc ++ [y]))) (out ++ [d]) m := by
  obtain ⟨acc', hL', rs⟩ := i.at_
  rw [hL] at hL'
  cases hL'
  refine ⟨i.ke.trans (ke_write _), i.kb.trans (ke_write _), ⟨⟨[], by simp, by simp⟩, fun a o h hm => ?_, fun a o h => ?_⟩, i.ok.write _, acc ++ [y], upd_same, (rs.ke (ke_write _)).append (.cons (ry.ke (ke_write _)) .nil)⟩
  · rw [upd_ne (ne_of_none h hn)]; exact i.po.keep a o h hm
  · obtain ⟨o1, e1⟩ := i.po.dom a o h
    exact ⟨o1, by rw [upd_ne (ne_of_none h hn)]; exact e1⟩
theorem LcI.fin {μ : Mu} {H1 Hb H : Hp} {L : Addr} {out : List D} {m : M} (i : LcI μ H1 L Hb H out m) (nh : L ∉ μ.h) : Post μ H1 μ H ∧ MOk μ H m ∧ μ.Free L ∧ ∃ acc, H L = some (.lst acc) ∧ Reps μ H acc out := by
  obtain ⟨acc, hL, rs⟩ := i.at_
  have h1 := i.ok.hid L List.mem_cons_self
  exact ⟨i.po, i.ok.show, ⟨h1.1, nh⟩, acc, hL, rs.ke ke_show⟩
/-- an expression that makes a new list -/
abbrev FN := Ev → M → Option (List D × M)
def tDN (f : FN) : TE := fun σ H Q => ∃ μ ε m ds m', REnv μ H σ ε ∧ MOk μ H m ∧ f ε m = some (ds, m') ∧ ∀ p H' vs, Post μ H μ H' → MOk μ H' m' → H p = none → H' p = some (.lst vs) → μ.Free p → Reps μ H' vs ds → Q (.ref p) H'
def fNew (f : FN) : F := fun ε m => (f ε m).map fun p => (.lst p.1, p.2)
theorem tDN_of {f : FN} {σ : L2.St} {H : Hp} {Q : VK} (h : tD (fNew f) σ H Q) : tDN f σ H Q := by
  obtain ⟨μ, ε, m, d, m', re, ok, e, q⟩ := h
  unfold fNew at e
  cases e1 : f ε m with
  | none => rw [e1] at e; cases e
  | some p =>
    rw [e1] at e
    cases e
    exact ⟨μ, ε, m, p.1, p.2, re, ok, e1, fun a H' vs p1 ok1 _ h1 hf rs => q _ H' p1 ok1 (.lst h1 hf rs)⟩
section
variable {X : Cx} {pos : Pos} {elt tg iter tg1 iter1 : Expr} {ifs ifs1 : List Expr} {scope : Scope}
theorem d_new {e : Expr} {f : FN} (h : PE X e (tDN f)) : PE X e (tD (fNew f)) := PE.weak h fun _ _ _ q => tDN_of q
theorem dts_nil : PTs X [] (tDT fYes) := ⟨fun pins s σ H Q I ⟨μ, ε, m, b, m', re, ok, e, q⟩ => by cases e; exact pts_nil.run pins s σ H Q I (q H (Post.refl _ _) ok)⟩
theorem dts_one {c : Expr} {t : FT} (h : PT X c (tDT t)) : PTs X [c] (tDT t) := pts_one h
theorem lc_turn {gt : TG} {st : StD} {is vs : List Nat} {t : FT} {f : F} (hgf : GFits gt st is) (hv : ∀ i ∈ is, i ∈ vs) {μ : Mu} {H1 Hb : Hp} {L : Addr} {σ : L2.St} {ε : Ev} (reb : REnv (hideM μ L) Hb (wipe σ vs) (wipeE ε vs)) (hn : H1 L = none)
    {i : Nat} {x : V} {H2 H3 : Hp} {ds : List D} {out : List D} {m2 : M} {res : List D × M} {d : D} (I : LcI μ H1 L Hb H2 out m2) (hd : ds[i]? = some d) (e : lcD st t f (wipeE ε vs) (ds.drop i) out m2 = some res)
    (p3 : Post (hideM μ L) H2 (hideM μ L) H3) (ok3 : MOk (hideM μ L) H3 m2) (rd : Rep (hideM μ L) H3 x d) :
    gt x (wipe σ vs) H3 fun σ2 H2 => wipe σ2 vs = wipe σ vs ∧ tDT t σ2 H2 fun b H3 =>
      if b = true then tD f σ2 H3 fun y H4 => ∃ acc, H4 L = some (.lst acc) ∧ acc.length < sizeLine ∧ (∃ out m, LcI μ H1 L Hb (upd H4 L (.lst (acc ++ [y]))) out m ∧ lcD st t f (wipeE ε vs) (ds.drop (i + 1)) out m = some res)
      else (∃ out m, LcI μ H1 L Hb H3 out m ∧ lcD st t f (wipeE ε vs) (ds.drop (i + 1)) out m = some res) := by
  have hd2 : ds.drop i = d :: ds.drop (i + 1) := by
    obtain ⟨hlt, he⟩ := List.getElem?_eq_some_iff.mp hd
    rw [← he]
    exact List.drop_eq_getElem_cons hlt
  rw [hd2] at e
  unfold lcD at e
  have I3 := I.grow p3 ok3
  have reW : REnv (hideM μ L) H3 (wipe σ vs) (wipeE ε vs) := reb.ke I3.kb
  cases e1 : st d (wipeE ε vs) with
  | none => rw [e1] at e; cases e
  | some ε1 =>
    rw [e1] at e
    simp only [Option.bind_some] at e
    refine hgf _ H3 x d _ _ ε1 _ rd reW e1 fun σ2 re2 l2 k2 => ⟨?_, ?_⟩
    · rw [← wipe_wipe (σ := σ)]
      exact wipe_eq l2 fun j hj => k2 j fun z => hj (hv j z)
    · cases e2 : t ε1 m2 with
      | none => rw [e2] at e; cases e
      | some p =>
        obtain ⟨b, m4⟩ := p
        rw [e2] at e
        simp only [Option.bind_some] at e
        refine tDT.step re2 ok3 e2 fun H4 p4 ok4 re4 => ?_
        have I4 := I3.grow p4 ok4
        cases b with
        | false =>
          rw [if_neg Bool.false_ne_true] at e ⊢
          exact ⟨out, m4, I4, e⟩
        | true =>
          rw [if_pos rfl] at e ⊢
          cases e3 : f ε1 m4 with
          | none => rw [e3] at e; cases e
          | some p =>
            obtain ⟨y, m5⟩ := p
            rw [e3] at e
            simp only [Option.bind_some] at e
            split at e
            · rename_i hl
              refine tD.step re4 ok4 e3 fun v H5 p5 ok5 re5 r5 => ?_
              have I5 := I4.grow p5 ok5
              obtain ⟨acc, hL, rs⟩ := I5.at_
              exact ⟨acc, hL, by rw [rs.length]; exact hl, out ++ [y], m5, I5.app hn hL r5, e⟩
            · cases e
theorem lc_allN {fi : FI} {gt : TG} {st : StD} {is vs : List Nat} {t : FT} {f : F} (hgf : GFits gt st is) (hv : ∀ i ∈ is, i ∈ vs) {σ : L2.St} {H : Hp} {Q : VK} (h : tDN (fLcN fi st t f vs) σ H Q) : tLc (tDI fi) gt (tDT t) (tD f) vs σ H Q := by
  obtain ⟨μ, ε, m, d, m', re, ok, e, q⟩ := h
  unfold fLcN at e
  cases e1 : fi ε m with
  | none => rw [e1] at e; cases e
  | some p =>
    obtain ⟨ds, m1⟩ := p
    rw [e1] at e
    simp only [Option.bind_some] at e
    refine ⟨μ, ε, m, ds, m1, re, ok, e1, fun J H1 p1 ok1 w L hn => ?_⟩
    obtain ⟨G, Y, W, hG, hY⟩ := w.ex
    have re1 := ((re.grow p1).ke (ke_hide hn (.lst []))).wipe vs
    refine lc_it W (fun i H2 => ∃ out m2, LcI μ H1 L (upd H1 L (.lst [])) H2 out m2 ∧ lcD st t f (wipeE ε vs) (ds.drop i) out m2 = some (d, m')) ⟨[], m1, lcI_start ok1 hn, e⟩ (fun i H2 _ ⟨out, m2, I, _⟩ => hG _ H2 I.ke) (fun i x H2 H3 hi2 ⟨out, m2, I, e3⟩ y => ?_) (fun H2 ⟨out, m2, I, e3⟩ => ?_)
    · obtain ⟨p3, ok3, d, hd, rd⟩ := hY i _ H2 x H3 m2 I.ke I.ok hi2 y
      exact lc_turn hgf hv re1 hn I hd e3 p3 ok3 rd
    · rw [List.drop_length] at e3
      cases e3
      obtain ⟨p4, ok4, hf, acc, h4, r4⟩ := I.fin (ok1.free hn).2
      exact q L H2 acc (p1.trans p4) ok4 (p1.free hn) h4 hf r4
theorem lc_all {fi : FI} {gt : TG} {st : StD} {is vs : List Nat} {t : FT} {f : F} (hgf : GFits gt st is) (hv : ∀ i ∈ is, i ∈ vs) {σ : L2.St} {H : Hp} {Q : VK} (h : tD (fLc fi st t f vs) σ H Q) : tLc (tDI fi) gt (tDT t) (tD f) vs σ H Q :=
  lc_allN hgf hv (tDN_of h)
theorem d_lc {vs : List Nat} {own : List (Str × Nat)} {fi : FI} {gt : TG} {st : StD} {is : List Nat} {t : FT} {f : F} (hc : X.calm = true) (hN : X.N.Nodup) (hi : PI X tg iter (tDI fi)) (ok : BlkOk X.N X.env.scope scope own)
    (hg : ∀ (s : Shared) (H : Hp) (C : Addr) (cl : List (Str × Addr)) (fp : List Addr), PG (X.blk s H scope (compEnvC scope cl C X.env) fp) tg gt) (hgf : GFits gt st is)
    (ht : ∀ (s : Shared) (H : Hp) (C : Addr) (cl : List (Str × Addr)) (fp : List Addr), PTs (X.blk s H scope (compEnvC scope cl C X.env) fp) ifs (tDT t))
    (he : ∀ (s : Shared) (H : Hp) (C : Addr) (cl : List (Str × Addr)) (fp : List Addr), PE (X.blk s H scope (compEnvC scope cl C X.env) fp) elt (tD f)) (hvs : own.map (·.2) = vs := by rfl) (hv : ∀ i ∈ is, i ∈ vs := by decide) (hs : ∀ x, foldedSetIterable iter X.env x = pure x := by intro _; rfl) :
    PE X (.ListComp elt [⟨tg, iter, ifs, 0⟩] scope pos) (tD (fLc fi st t f vs)) := by
  subst hvs
  exact PE.weak (pe_lc hc hN hi ok hg ht he hs) fun _ _ _ h => lc_all hgf hv h
theorem ds_setLc {vs : List Nat} {i : Nat} {y : Str} {py spos : Pos} {own : List (Str × Nat)} {fi : FI} {gt : TG} {st : StD} {is : List Nat} {t : FT} {f : F} (hc : X.calm = true) (hN : X.N.Nodup) (hy : X.N[i]? = some y) (hyl : X.env.scope.names.lookup y = some .local)
    (hsw : swapsWith (.ListComp elt [⟨tg, iter, ifs, 0⟩] scope pos) (some (.Name y py)) spos.line X.env = pure true) (hi : PI X tg iter (tDI fi)) (ok : BlkOk X.N X.env.scope scope own)
    (hg : ∀ (s : Shared) (H : Hp) (C : Addr) (cl : List (Str × Addr)) (fp : List Addr), PG (X.blk s H scope (compEnvC scope cl C X.env) fp) tg gt) (hgf : GFits gt st is)
    (ht : ∀ (s : Shared) (H : Hp) (C : Addr) (cl : List (Str × Addr)) (fp : List Addr), PTs (X.blk s H scope (compEnvC scope cl C X.env) fp) ifs (tDT t))
    (he : ∀ (s : Shared) (H : Hp) (C : Addr) (cl : List (Str × Addr)) (fp : List Addr), PE (X.blk s H scope (compEnvC scope cl C X.env) fp) elt (tD f)) (hvs : own.map (·.2) = vs := by rfl) (hv : ∀ i ∈ is, i ∈ vs := by decide) (hs : ∀ x, foldedSetIterable iter X.env x = pure x := by intro _; rfl) :
    PS X (.Assign [.Name y py] (.ListComp elt [⟨tg, iter, ifs, 0⟩] scope pos) spos) (tDS (sSet i (fLc fi st t f vs))) := by
  subst hvs
  refine PS.weak (ps_setLc hc hN hy hyl hsw hi ok hg ht he hs) fun D σ H ⟨μ, ε, m, o, re, ok, e, q⟩ => ?_
  unfold sSet at e
  cases e1 : fLc fi st t f (own.map (·.2)) ε m with
  | none => rw [e1] at e; cases e
  | some p =>
    rw [e1] at e
    cases e
    exact lc_all hgf hv (tD.step re ok e1 fun v H1 p1 ok1 re1 r1 => q μ _ H1 p1 (re1.set r1 i) ok1)
end
end DL
end
section
set_option Elab.async false
set_option linter.all false
set_option maxRecDepth 100000
namespace DL
open PySem PySem.Spec PyProof.Rows L2
/-! ### the changeable lists written -/
theorem nodup_at {l : List Addr} (h : l.Nodup) {i j : Nat} {a : Addr} (e : l[i]? = some a) (e' : l[j]? = some a) : i = j := by
  obtain ⟨h1, e1⟩ := List.getElem?_eq_some_iff.mp e
  obtain ⟨h2, e2⟩ := List.getElem?_eq_some_iff.mp e'
  exact (List.getElem_inj h).mp (e1.trans e2.symm)
theorem post_mut {μ : Mu} {H : Hp} {a : Addr} {u : HO} (ha : a ∈ μ.l) (o : HO) : Post μ H μ (upd H a o) :=
  ⟨⟨[], by simp, by simp⟩, fun b w h n => by rw [upd_ne (fun z => n (by rw [z]; exact ha))]; exact h, fun b w h => by
    by_cases e : b = a
    · subst e; exact ⟨o, upd_same⟩
    · exact ⟨w, by rw [upd_ne e]; exact h⟩⟩
theorem MOk.put {μ : Mu} {H : Hp} {m : M} {k : Nat} {a : Addr} {vs : List V} {ds : List D} (ok : MOk μ H m) (hk : μ.l[k]? = some a) (rs : Reps μ H vs ds) : MOk μ (upd H a (.lst vs)) (m.set k ds) := by
  have ha : a ∈ μ.l := List.mem_of_getElem? hk
  have p : Post μ H μ (upd H a (.lst vs)) := post_mut (u := .lst vs) ha _
  refine ⟨ok.nd, by rw [List.length_set]; exact ok.len, fun j b es h1 h2 => ?_, fun b hb => ?_⟩
  · rw [List.getElem?_set] at h2
    split at h2
    · rename_i hjk
      subst hjk
      rw [hk] at h1
      cases h1
      split at h2
      · cases h2
        exact ⟨vs, upd_same, rs.grow p⟩
      · cases h2
    · rename_i hjk
      obtain ⟨ws, e, r⟩ := ok.at_ j b es h1 h2
      have : b ≠ a := fun z => hjk (nodup_at ok.nd hk (by rw [← z]; exact h1))
      exact ⟨ws, by rw [upd_ne this]; exact e, r.grow p⟩
  · obtain ⟨n, o, e⟩ := ok.hid b hb
    exact ⟨n, o, by rw [upd_ne (fun z => n (by rw [z]; exact ha))]; exact e⟩
def fApnd (fo f : F) : F := fun ε m => (fo ε m).bind fun p => (f ε p.2).bind fun q => match p.1 with
  | .mr k => q.2[k]?.bind fun l => if l.length < sizeLine then some (.non, q.2.set k (l ++ [q.1])) else none
  | _ => none
def fExtd (fo f : F) : F := fun ε m => (fo ε m).bind fun p => (f ε p.2).bind fun q => match p.1, q.1 with
  | .mr k, .lst r => q.2[k]?.bind fun l => if l.length + r.length ≤ sizeLine then some (.non, q.2.set k (l ++ r)) else none
  | _, _ => none
def fPop (fo : F) : F := fun ε m => (fo ε m).bind fun p => match p.1 with
  | .mr k => p.2[k]?.bind fun l => l[l.length - 1]?.map fun d => (d, p.2.set k l.dropLast)
  | _ => none
section
variable {X : Cx} {a b c : Expr} {fa fb fc : F} {pos apos : Pos}
theorem ty_list {K : PySem.W.Frag} {μ : Mu} {H : Hp} {m : M} {v : V} {k : Nat} (ok : MOk μ H m) (r : Rep μ H v (.mr k)) : tyV K "list" v H := by
  cases r with
  | mr h =>
    obtain ⟨vs, e⟩ := ok.has (List.mem_of_getElem? h)
    exact .inl ⟨rfl, _, SqL.of e⟩
theorem d_append (ha : PE X a (tD fa)) (hb : PE X b (tD fb)) (hbase : attributeBase a "append" X.env (eval a X.env) = eval a X.env := by rfl)
    (hfew : ((backTo pos (starEach (b :: []) X.env)).all (fun x => !x.1) && (backToKw pos (keywordEach [] X.env)).all (fun x => x.1.isSome)
      && decide ((b :: ([] : List Expr)).length + ([] : List Keyword).length + (if ([] : List Keyword).isEmpty then 0 else 1) < 30)) = true := by rfl)
    (hline : (apos.endLine == pos.line) = true := by rfl) (hs : starEach (b :: []) X.env = (false, eval b X.env) :: starEach [] X.env := by rfl) :
    PE X (.Call (.Attribute a "append" apos) [b] [] pos) (tD (fApnd fa fb)) := by
  refine PE.weak (pe_bm PySem.F.plainAttrs_list PySem.F.slot_list_append PySem.F.type_list_append mt_append ha (pa_cons hb pa_nil hs) hbase hfew hline hs rfl) fun σ H Q ⟨μ, ε, m, d, m', re, ok, e, q⟩ => ?_
  unfold fApnd at e
  cases e1 : fa ε m with
  | none => rw [e1] at e; cases e
  | some p =>
    obtain ⟨dx, m1⟩ := p
    rw [e1] at e
    simp only [Option.bind_some] at e
    cases e2 : fb ε m1 with
    | none => rw [e2] at e; cases e
    | some p =>
      obtain ⟨dy, m2⟩ := p
      rw [e2] at e
      simp only [Option.bind_some] at e
      cases dx with
      | mr k =>
        have e : (m2[k]?.bind fun l => if l.length < sizeLine then some (D.non, m2.set k (l ++ [dy])) else none) = some (d, m') := e
        cases e3 : m2[k]? with
        | none => rw [e3] at e; cases e
        | some l =>
          rw [e3] at e
          simp only [Option.bind_some] at e
          split at e
          · rename_i hl
            simp at e
            obtain ⟨rfl, rfl⟩ := e
            refine tD.step re ok e1 fun x H1 p1 ok1 re1 r1 => ⟨ty_list ok1 r1, ?_⟩
            refine tD.step re1 ok1 e2 fun y H2 p2 ok2 re2 r2 => ?_
            cases r1 with
            | @mr ad _ h =>
              obtain ⟨vs, hv, rs⟩ := ok2.at_ k ad l h e3
              refine ⟨ad, vs, y, rfl, rfl, hv, by rw [rs.length]; exact hl, ?_⟩
              exact q _ _ ((p1.trans p2).trans (post_mut (u := .lst vs) (List.mem_of_getElem? h) _)) (ok2.put h (rs.append (.cons r2 .nil))) .non
          · cases e
      | _ => cases e
theorem d_extend (ha : PE X a (tD fa)) (hb : PE X b (tD fb)) (hbase : attributeBase a "extend" X.env (eval a X.env) = eval a X.env := by rfl)
    (hfew : ((backTo pos (starEach (b :: []) X.env)).all (fun x => !x.1) && (backToKw pos (keywordEach [] X.env)).all (fun x => x.1.isSome)
      && decide ((b :: ([] : List Expr)).length + ([] : List Keyword).length + (if ([] : List Keyword).isEmpty then 0 else 1) < 30)) = true := by rfl)
    (hline : (apos.endLine == pos.line) = true := by rfl) (hs : starEach (b :: []) X.env = (false, eval b X.env) :: starEach [] X.env := by rfl) :
    PE X (.Call (.Attribute a "extend" apos) [b] [] pos) (tD (fExtd fa fb)) := by
  refine PE.weak (pe_bm PySem.F.plainAttrs_list PySem.F.slot_list_extend PySem.F.type_list_extend mt_extend ha (pa_cons hb pa_nil hs) hbase hfew hline hs rfl) fun σ H Q ⟨μ, ε, m, d, m', re, ok, e, q⟩ => ?_
  unfold fExtd at e
  cases e1 : fa ε m with
  | none => rw [e1] at e; cases e
  | some p =>
    obtain ⟨dx, m1⟩ := p
    rw [e1] at e
    simp only [Option.bind_some] at e
    cases e2 : fb ε m1 with
    | none => rw [e2] at e; cases e
    | some p =>
      obtain ⟨dy, m2⟩ := p
      rw [e2] at e
      simp only [Option.bind_some] at e
      cases dx with
      | mr k =>
        cases dy with
        | lst r =>
          have e : (m2[k]?.bind fun l => if l.length + r.length ≤ sizeLine then some (D.non, m2.set k (l ++ r)) else none) = some (d, m') := e
          cases e3 : m2[k]? with
          | none => rw [e3] at e; cases e
          | some l =>
            rw [e3] at e
            simp only [Option.bind_some] at e
            split at e
            · rename_i hl
              simp at e
              obtain ⟨rfl, rfl⟩ := e
              refine tD.step re ok e1 fun x H1 p1 ok1 re1 r1 => ⟨ty_list ok1 r1, ?_⟩
              refine tD.step re1 ok1 e2 fun y H2 p2 ok2 re2 r2 => ?_
              cases r1 with
              | @mr ad _ h =>
                obtain ⟨vs, hv, rs⟩ := ok2.at_ k ad l h e3
                cases r2 with
                | @lst b ws _ hb hn rs' =>
                  refine ⟨ad, b, vs, ws, rfl, rfl, hv, hb, by rw [rs.length, rs'.length]; exact hl, ?_⟩
                  exact q _ _ ((p1.trans p2).trans (post_mut (u := .lst vs) (List.mem_of_getElem? h) _)) (ok2.put h (rs.append rs')) .non
            · cases e
        | _ => cases e
      | _ => cases dy <;> cases e
theorem d_pop (ha : PE X a (tD fa)) (hbase : attributeBase a "pop" X.env (eval a X.env) = eval a X.env := by rfl) (hline : (apos.endLine == pos.line) = true := by rfl) :
    PE X (.Call (.Attribute a "pop" apos) [] [] pos) (tD (fPop fa)) := by
  refine PE.weak (pe_bm0 PySem.F.plainAttrs_list PySem.F.slot_list_pop PySem.F.type_list_pop mt_pop ha hbase hline) fun σ H Q ⟨μ, ε, m, d, m', re, ok, e, q⟩ => ?_
  unfold fPop at e
  cases e1 : fa ε m with
  | none => rw [e1] at e; cases e
  | some p =>
    obtain ⟨dx, m1⟩ := p
    rw [e1] at e
    simp only [Option.bind_some] at e
    cases dx with
    | mr k =>
      have e : (m1[k]?.bind fun l => l[l.length - 1]?.map fun d => (d, m1.set k l.dropLast)) = some (d, m') := e
      cases e3 : m1[k]? with
      | none => rw [e3] at e; cases e
      | some l =>
        rw [e3] at e
        simp only [Option.bind_some] at e
        cases e4 : l[l.length - 1]? with
        | none => rw [e4] at e; cases e
        | some y =>
          rw [e4] at e
          simp at e
          obtain ⟨rfl, rfl⟩ := e
          refine tD.step re ok e1 fun x H1 p1 ok1 re1 r1 => ⟨ty_list ok1 r1, ?_⟩
          cases r1 with
          | @mr ad _ h =>
            obtain ⟨vs, hv, rs⟩ := ok1.at_ k ad l h e3
            obtain ⟨v, hv2, rv⟩ := rs.get e4
            have p2 : Post μ H1 μ (upd H1 ad (.lst vs.dropLast)) := post_mut (u := .lst vs) (List.mem_of_getElem? h) _
            refine ⟨ad, vs, v, rfl, rfl, hv, by rw [rs.length]; exact hv2, ?_⟩
            exact q _ _ (p1.trans p2) (ok1.put h rs.dropLast) (rv.grow p2)
    | _ => cases e
/-! ### texts -/
def strsD : List D → Option (List Str)
  | [] => some []
  | .str s :: r => (strsD r).map fun ss => s :: ss
  | _ :: _ => none
theorem strs_rep {μ : Mu} {H : Hp} : ∀ {vs : List V} {ds : List D} {bs : List Str}, Reps μ H vs ds → strsD ds = some bs → vs = bs.map V.str
  | _, _, _, .nil, e => by cases Option.some.inj e; rfl
  | _, .str b :: ds, bs, .cons r t, e => by
    cases r
    have e : (strsD ds).map (fun bs => b :: bs) = some bs := e
    cases e1 : strsD ds with
    | none => rw [e1] at e; cases e
    | some cs => rw [e1] at e; cases e; rw [strs_rep t e1]; rfl
def joinG (x y : D) : Option D := match x, y with
  | .str a, .lst l => (strsD l).bind fun ys => if (ys.map (·.length)).sum + ys.length * a.length ≤ 16777216 then some (.str (Txt.join a ys)) else none
  | _, _ => none
def stripG (x y : D) : Option D := match x, y with
  | .str a, .str b => if a.length ≤ sizeLine then some (.str (Txt.stripChars a b)) else none
  | _, _ => none
def fMt (g : D → D → Option D) (fo f : F) : F := fun ε m => (fo ε m).bind fun p => (f ε p.2).bind fun q => (g p.1 q.1).map fun d => (d, q.2)
theorem fMt_some {g : D → D → Option D} {fo f : F} {ε : Ev} {m m' : M} {d : D} (e : fMt g fo f ε m = some (d, m')) : ∃ x m1 y, fo ε m = some (x, m1) ∧ f ε m1 = some (y, m') ∧ g x y = some d := by
  unfold fMt at e
  cases e1 : fo ε m with
  | none => rw [e1] at e; cases e
  | some p =>
    obtain ⟨x, m1⟩ := p
    rw [e1] at e
    simp only [Option.bind_some] at e
    cases e2 : f ε m1 with
    | none => rw [e2] at e; cases e
    | some p =>
      obtain ⟨y, m2⟩ := p
      rw [e2] at e
      simp only [Option.bind_some] at e
      cases e3 : g x y with
      | none => rw [e3] at e; cases e
      | some d' =>
        rw [e3] at e
        simp at e
        obtain ⟨rfl, rfl⟩ := e
        exact ⟨x, m1, y, rfl, e2, e3⟩
theorem d_join (ha : PE X a (tD fa)) (hb : PE X b (tD fb)) (hs : starEach [b] X.env = [(false, eval b X.env)] := by rfl) (hbase : attributeBase a "join" X.env (eval a X.env) = eval a X.env := by rfl) (hline : (apos.endLine == pos.line) = true := by rfl) :
    PE X (.Call (.Attribute a "join" apos) [b] [] pos) (tD (fMt joinG fa fb)) := by
  refine PE.weak (pe_join ha hb hs hbase hline) fun σ H Q ⟨μ, ε, m, d, m', re, ok, e, q⟩ => ?_
  obtain ⟨x, m1, y, e1, e2, e3⟩ := fMt_some e
  refine tD.step re ok e1 fun v H1 p1 ok1 re1 r1 => ?_
  cases r1 with
  | str z =>
    refine ⟨⟨z, rfl⟩, tD.step re1 ok1 e2 fun w H2 p2 ok2 re2 r2 => ?_⟩
    cases r2 with
    | @lst p vs l h hn rs =>
      have e3 : ((strsD l).bind fun ys => if (ys.map (·.length)).sum + ys.length * z.length ≤ 16777216 then some (D.str (Txt.join z ys)) else none) = some d := e3
      cases e4 : strsD l with
      | none => rw [e4] at e3; cases e3
      | some ys =>
        rw [e4] at e3
        simp only [Option.bind_some] at e3
        split at e3
        · rename_i hl
          cases e3
          rw [strs_rep rs e4] at h
          exact ⟨z, p, ys, rfl, rfl, .inl (SqL.of h), hl, q _ H2 (p1.trans p2) ok2 (.str _)⟩
        · cases e3
    | _ => cases e3
  | _ => cases y <;> cases e3
theorem d_strip (ha : PE X a (tD fa)) (hb : PE X b (tD fb)) (hs : starEach [b] X.env = [(false, eval b X.env)] := by rfl) (hbase : attributeBase a "strip" X.env (eval a X.env) = eval a X.env := by rfl) (hline : (apos.endLine == pos.line) = true := by rfl) :
    PE X (.Call (.Attribute a "strip" apos) [b] [] pos) (tD (fMt stripG fa fb)) := by
  refine PE.weak (pe_m1 PySem.F.slot_str_strip PySem.F.type_str_strip mt_stripChars ha hb hs hbase hline) fun σ H Q ⟨μ, ε, m, d, m', re, ok, e, q⟩ => ?_
  obtain ⟨x, m1, y, e1, e2, e3⟩ := fMt_some e
  refine tD.step re ok e1 fun v H1 p1 ok1 re1 r1 => ?_
  cases r1 with
  | str z =>
    refine ⟨⟨z, rfl⟩, tD.step re1 ok1 e2 fun w H2 p2 ok2 re2 r2 => ?_⟩
    cases r2 with
    | str u =>
      have e3 : (if z.length ≤ sizeLine then some (D.str (Txt.stripChars z u)) else none) = some d := e3
      split at e3
      · rename_i hl
        cases e3
        exact ⟨z, u, rfl, rfl, hl, q _ H2 (p1.trans p2) ok2 (.str _)⟩
      · cases e3
    | _ => cases e3
  | _ => cases y <;> cases e3
/-! ### a list of one's own, changed later -/
def sOwn (i : Nat) (f : FA) : FS := fun ε m => (f ε m).bind fun p => if p.1.length ≤ sizeLine then some (.nx (ε.set i (some (.mr p.2.length))) (p.2 ++ [p.1])) else none
theorem own_new {μ : Mu} {H : Hp} {m : M} {p : Addr} {vs : List V} {ds : List D} (ok : MOk μ H m) (hp : H p = none) (rs : Reps μ H vs ds) :
    Post μ H ⟨μ.l ++ [p], μ.h⟩ (upd H p (.lst vs)) ∧ MOk ⟨μ.l ++ [p], μ.h⟩ (upd H p (.lst vs)) (m ++ [ds]) ∧ Rep ⟨μ.l ++ [p], μ.h⟩ (upd H p (.lst vs)) (.ref p) (.mr m.length) := by
  have po : Post μ H ⟨μ.l ++ [p], μ.h⟩ (upd H p (.lst vs)) := ⟨⟨[p], rfl, fun a ha => by rw [List.mem_singleton.mp ha]; exact hp⟩, fun a u h _ => by rw [upd_ne (ne_of_none h hp)]; exact h, fun a u h => ⟨u, by rw [upd_ne (ne_of_none h hp)]; exact h⟩⟩
  have fr := ok.free hp
  refine ⟨po, ⟨?_, ?_, ?_, ?_⟩, .mr (by show (μ.l ++ [p])[m.length]? = some p; rw [ok.len, List.getElem?_append_right (Nat.le_refl _)]; simp)⟩
  · refine List.nodup_append.mpr ⟨ok.nd, by simp, ?_⟩
    intro a ha b hb
    rw [List.mem_singleton.mp hb]
    rintro rfl
    exact fr.1 ha
  · simp [ok.len]
  · intro k a es h1 h2
    by_cases hk : k < μ.l.length
    · rw [List.getElem?_append_left hk] at h1
      rw [List.getElem?_append_left (by rw [ok.len]; exact hk)] at h2
      obtain ⟨ws, e, r⟩ := ok.at_ k a es h1 h2
      exact ⟨ws, by rw [upd_ne (ne_of_none e hp)]; exact e, r.grow po⟩
    · rw [List.getElem?_append_right (by omega)] at h1
      rw [List.getElem?_append_right (by rw [ok.len]; omega)] at h2
      have hk2 : k - μ.l.length = 0 := by
        have := (List.getElem?_eq_some_iff.mp h1).1
        simp at this
        omega
      rw [hk2] at h1
      rw [ok.len, hk2] at h2
      simp at h1 h2
      subst h1 h2
      exact ⟨vs, upd_same, rs.grow po⟩
  · intro b hb
    obtain ⟨n, o, e⟩ := ok.hid b hb
    refine ⟨fun z => ?_, o, by rw [upd_ne (ne_of_none e hp)]; exact e⟩
    rcases List.mem_append.mp z with z | z
    · exact n z
    · rw [List.mem_singleton.mp z, hp] at e; cases e
theorem ds_own {i : Nat} {x : Str} {es : List Expr} {fe : FA} {pos' p2 : Pos} (hN : X.N.Nodup) (hi : X.N[i]? = some x) (hx : Loc X.env.scope x) (he : PA X es (tDA fe)) (hs : swapsWith (.List es p2) (some (.Name x pos')) pos.line X.env = pure false := by rfl)
    (hf : X.fn x = true ∨ X.env.scope.names.lookup x = some .local := by first | exact .inl rfl | exact .inr rfl | assumption) : PS X (.Assign [.Name x pos'] (.List es p2) pos) (tDS (sOwn i fe)) := by
  refine PS.weak (ps_set hN hi hx (pe_lst he) hs hf) fun D σ H ⟨μ, ε, m, o, re, ok, e, q⟩ => ?_
  unfold sOwn at e
  cases e1 : fe ε m with
  | none => rw [e1] at e; cases e
  | some p =>
    obtain ⟨ds, m1⟩ := p
    rw [e1] at e
    simp only [Option.bind_some] at e
    split at e
    · rename_i hl
      cases e
      refine tDA.step re ok e1 fun vs H1 p1 ok1 re1 r1 => ⟨by rw [r1.length]; exact hl, fun p hp => ?_⟩
      obtain ⟨po, ok2, rp⟩ := own_new ok1 hp r1
      exact q _ _ _ (p1.trans po) ((re1.grow po).set rp i) ok2
    · cases e
end
/-! ### a def -/
mutual
def pureD : D → Bool
  | .tup l => puresD l
  | .lst l => puresD l
  | .mr _ => false
  | _ => true
def puresD : List D → Bool
  | [] => true
  | d :: r => pureD d && puresD r
end
theorem pure_rep {μ μ' : Mu} {H : Hp} (hf : ∀ a, μ'.Free a → μ.Free a) :
    (∀ v d, Rep μ' H v d → pureD d = true → Rep μ H v d) ∧ (∀ vs ds, Reps μ' H vs ds → puresD ds = true → Reps μ H vs ds) := by
  refine ⟨fun v d r => ?_, fun vs ds r => ?_⟩
  · exact Rep.rec (motive_1 := fun v d _ => pureD d = true → Rep μ H v d) (motive_2 := fun vs ds _ => puresD ds = true → Reps μ H vs ds)
      (fun _ => .non) (fun b _ => .bl b) (fun i _ => .int i) (fun s _ => .str s) (fun h hn _ ih hp => .tup h (hf _ hn) (ih (by rw [pureD] at hp; exact hp))) (fun h hn _ ih hp => .lst h (hf _ hn) (ih (by rw [pureD] at hp; exact hp))) (fun h hp => by rw [pureD] at hp; cases hp)
      (fun _ => .nil) (fun _ _ ih1 ih2 hp => by
        rw [puresD, Bool.and_eq_true] at hp
        exact .cons (ih1 hp.1) (ih2 hp.2)) r
  · exact Reps.rec (motive_1 := fun v d _ => pureD d = true → Rep μ H v d) (motive_2 := fun vs ds _ => puresD ds = true → Reps μ H vs ds)
      (fun _ => .non) (fun b _ => .bl b) (fun i _ => .int i) (fun s _ => .str s) (fun h hn _ ih hp => .tup h (hf _ hn) (ih (by rw [pureD] at hp; exact hp))) (fun h hn _ ih hp => .lst h (hf _ hn) (ih (by rw [pureD] at hp; exact hp))) (fun h hp => by rw [pureD] at hp; cases hp)
      (fun _ => .nil) (fun _ _ ih1 ih2 hp => by
        rw [puresD, Bool.and_eq_true] at hp
        exact .cons (ih1 hp.1) (ih2 hp.2)) r
def finR (n : Nat) (m' : M) : D → Option D
  | .mr k => if k < n then some (.mr k) else m'[k]?.bind fun l => if puresD l = true then some (.lst l) else none
  | d => if pureD d = true then some d else none
def finD (n : Nat) (d : D) (m' : M) : Option (D × M) := if m'.length = n then some (d, m') else if (m'.take n).all puresD = true then (finR n m' d).map fun d' => (d', m'.take n) else none
def fnD (np n : Nat) (body : FS) : FD := fun ds m => if ds.length = np then (body (ds.map some ++ List.replicate (n - np) none) m).bind fun o => match o with
  | .rt d m' => finD m.length d m'
  | .nx _ m' => finD m.length .non m'
  | .rn ds m' => finD m.length (.lst ds) m'
  | _ => none else none
theorem fin_ok {μ μ' : Mu} {H H' : Hp} {v : V} {d d2 : D} {m' m2 : M} {n : Nat} (hn : n = μ.l.length) (p : Post μ H μ' H') (ok : MOk μ' H' m') (r : Rep μ' H' v d) (e : finD n d m' = some (d2, m2)) : Post μ H μ H' ∧ MOk μ H' m2 ∧ Rep μ H' v d2 := by
  obtain ⟨ν, rfl, hν⟩ := p.pre
  have po : Post μ H μ H' := ⟨⟨[], by simp, by simp⟩, p.keep, p.dom⟩
  have hf : ∀ a, Mu.Free ⟨μ.l ++ ν, μ.h⟩ a → μ.Free a := fun a h => ⟨fun z => h.1 (List.mem_append_left _ z), h.2⟩
  unfold finD at e
  split at e
  · rename_i hl
    simp at e
    obtain ⟨rfl, rfl⟩ := e
    have e0 : ν = [] := by
      have := ok.len
      simp at this
      exact List.eq_nil_of_length_eq_zero (by omega)
    subst e0
    have e1 : (⟨μ.l ++ [], μ.h⟩ : Mu) = μ := by simp
    rw [e1] at ok r
    exact ⟨po, ok, r⟩
  · split at e
    · rename_i hl hp
      cases e1 : finR n m' d with
      | none => rw [e1] at e; cases e
      | some d' =>
        rw [e1] at e
        simp at e
        obtain ⟨rfl, rfl⟩ := e
        have lenOk := ok.len
        have hm : n ≤ m'.length := by simp at lenOk; omega
        have nd := List.nodup_append.mp ok.nd
        refine ⟨po, ⟨nd.1, by simp; omega, fun k a ds h1 h2 => ?_, fun a ha => ?_⟩, ?_⟩
        · have hk : k < n := by
            have := (List.getElem?_eq_some_iff.mp h1).1
            omega
          rw [List.getElem?_take] at h2
          rw [if_pos hk] at h2
          obtain ⟨vs, e3, r3⟩ := ok.at_ k a ds (get_pre h1) h2
          refine ⟨vs, e3, (pure_rep hf).2 vs ds r3 ?_⟩
          refine List.all_eq_true.mp hp ds ?_
          refine List.mem_of_getElem? (i := k) ?_
          rw [List.getElem?_take, if_pos hk]
          exact h2
        · obtain ⟨h1, h2⟩ := ok.hid a ha
          exact ⟨fun z => h1 (List.mem_append_left _ z), h2⟩
        · cases r with
          | @mr a k h =>
            have e1 : (if k < n then some (D.mr k) else m'[k]?.bind fun l => if puresD l = true then some (D.lst l) else none) = some d' := e1
            split at e1
            · rename_i hk
              cases e1
              refine .mr ?_
              have : (μ.l ++ ν)[k]? = some a := h
              rwa [List.getElem?_append_left (by omega)] at this
            · rename_i hk
              cases e4 : m'[k]? with
              | none => rw [e4] at e1; cases e1
              | some l =>
                rw [e4] at e1
                simp only [Option.bind_some] at e1
                split at e1
                · rename_i hpl
                  cases e1
                  obtain ⟨vs, e5, r5⟩ := ok.at_ k a l h e4
                  refine .lst e5 ⟨fun z => ?_, fun z => ?_⟩ ((pure_rep hf).2 vs l r5 hpl)
                  · have h6 : (μ.l ++ ν)[k]? = some a := h
                    rw [List.getElem?_append_right (by omega)] at h6
                    exact nd.2.2 a z a (List.mem_of_getElem? h6) rfl
                  · exact (ok.hid a z).1 (List.mem_of_getElem? h)
                · cases e1
          | _ =>
            simp only [finR] at e1
            split at e1
            · rename_i hp2
              cases e1
              first | exact .non | exact .bl _ | exact .int _ | exact .str _ | (rename_i h hn2 rs; exact (pure_rep hf).1 _ _ (.tup h hn2 rs) hp2) | (rename_i h hn2 rs; exact (pure_rep hf).1 _ _ (.lst h hn2 rs) hp2)
            · cases e1
    · cases e
section
variable {P : Program} {w : World} {K : PySem.W.Frag} {mg : Str → Option Value} {base : Heap}
theorem start_env {μ : Mu} {H : Hp} {N : List Str} : ∀ {vs : List V} {ds : List D}, Reps μ H vs ds → REnv μ H (vs.map some ++ List.replicate (N.length - vs.length) none) (ds.map some ++ List.replicate (N.length - ds.length) none) := fun {vs ds} r => by
  refine ⟨by simp [r.length], fun i d e => ?_⟩
  by_cases hi : i < ds.length
  · rw [List.getElem?_append_left (by simpa using hi), List.getElem?_map] at e
    cases e1 : ds[i]? with
    | none => rw [e1] at e; cases e
    | some d' =>
      rw [e1] at e
      simp at e
      subst e
      obtain ⟨v, h1, h2⟩ := r.get e1
      refine ⟨v, ?_, h2⟩
      rw [List.getElem?_append_left (by rw [List.length_map, r.length]; exact hi), List.getElem?_map, h1]
      rfl
  · rw [List.getElem?_append_right (by simpa using hi)] at e
    rw [List.getElem?_replicate] at e
    split at e <;> cases e
theorem d_fn {x qual : Str} {st : Stmt} {f : Addr} {fd : FuncData} {N ps : List Str} {k : Nat} {body : FS} (Fn : Fun K x qual st f fd) (S : FnScope N ps (defScope st))
    (hbody : ∀ (cdv : Value) (A : Around) (outer : List Env) (s : Shared) (H : Hp) (E : XK), Room k (A.deeper (envOfC qual (defScope st) s.heap.objs.size f cdv)) →
      PSs (cxOf CX0 P w K mg base N qual (defScope st) f cdv A outer s H E).nox (defBody st) (tDS body)) : FnOk P w K mg base CX0 (k + 1) f fd ps (spD (fnD ps.length N.length body)) := by
  refine Fn.ok S (fun vs H Q E h => ?_) (fun cdv A outer s H vs Q E hr h => ⟨_, hbody cdv A outer s H E hr, ?_⟩)
  · obtain ⟨μ, ds, m, d, m', rs, ok, e, _⟩ := h
    unfold fnD at e
    split at e
    · rename_i hl; rw [rs.length, hl]
    · cases e
  · obtain ⟨μ, ds, m, d, m', rs, ok, e, q⟩ := h
    unfold fnD at e
    split at e
    · rename_i hl
      cases e1 : body (ds.map some ++ List.replicate (N.length - ps.length) none) m with
      | none => rw [e1] at e; cases e
      | some o =>
        rw [e1] at e
        simp only [Option.bind_some] at e
        refine ⟨μ, _, m, o, start_env rs, ok, by rw [hl]; exact e1, ?_⟩
        cases o with
        | rt d1 m1 =>
          intro μ' v H' p ok' r
          obtain ⟨h1, h2, h3⟩ := fin_ok ok.len p ok' r e
          exact q v H' h1 h2 h3
        | nx ε1 m1 =>
          intro μ' σ' H' p re' ok'
          obtain ⟨h1, h2, h3⟩ := fin_ok ok.len p ok' (.non : Rep μ' H' .non .non) e
          exact q .non H' h1 h2 h3
        | rn es m1 =>
          intro μ' a H' ws p ok' hn ha hf rs'
          obtain ⟨h1, h2, h3⟩ := fin_ok ok.len p ok' (.lst ha hf rs') e
          exact q (.ref a) H' h1 h2 h3
        | bk ε1 m1 => cases e
        | ct ε1 m1 => cases e
    · cases e
end
end DL
end
section
set_option Elab.async false
set_option linter.all false
set_option maxRecDepth 100000
namespace DL
open PySem PySem.Spec PyProof.Rows L2
theorem in_it {J : It} {n : Nat} {G : Hp → Prop} {Y : Nat → Hp → V → Hp → Prop} (w : Walk J n G Y) {Body : (Hp → Prop) → V → Hp → Prop} {Nx : Hp → Prop} {H : Hp} (Pv : Nat → Hp → Prop) (h0 : Pv 0 H) (hG : ∀ i H, i ≤ n → Pv i H → G H)
    (hs : ∀ i x H H', i < n → Pv i H → Y i H x H' → Body (Pv (i + 1)) x H') (hd : ∀ H, Pv n H → Nx H) :
    ∃ W1 : Nat → Nat → Hp → Prop, (∃ m, W1 0 m H) ∧ ∀ j k H, W1 j k H → (J.stop j H ∧ Nx H) ∨ (J.go j H ∧ ∃ Nx1 : Hp → Prop, (∀ H', Nx1 H' → ∃ k', k' < k ∧ W1 (j + 1) k' H') ∧ ∀ x H', J.yld j H x H' → Body Nx1 x H') := by
  refine ⟨fun i m H => m = n - i ∧ i ≤ n ∧ Pv i H, ⟨n, by simp, Nat.zero_le _, h0⟩, ?_⟩
  rintro i m H ⟨rfl, hi, p⟩
  have q := hG i H hi p
  by_cases hlt : i < n
  · exact .inr ⟨w.goes i H hlt q, Pv (i + 1), fun H' p' => ⟨n - (i + 1), by omega, rfl, hlt, p'⟩, fun x H' y => hs i x H H' hlt p (w.yields i H x H' hlt q y)⟩
  · have e : i = n := by omega
    subst e
    exact .inl ⟨w.stops H q, hd H p⟩
/-- two clauses -/
def lc2D (st : StD) (fj : FI) (st1 : StD) (f : F) (vs1 : List Nat) (ε : Ev) : List D → List D → M → Option (List D × M)
  | [], out, m => some (out, m)
  | d :: r, out, m => (st d ε).bind fun ε1 => (fj ε1 m).bind fun p => (lcD st1 fYes f (wipeE ε1 vs1) p.1 out p.2).bind fun q => lc2D st fj st1 f vs1 ε r q.1 q.2
def fLc2N (fi : FI) (st : StD) (fj : FI) (st1 : StD) (f : F) (vs vs1 : List Nat) : FI := fun ε m => (fi ε m).bind fun p => lc2D st fj st1 f vs1 (wipeE ε vs) p.1 [] p.2
def fLc2 (fi : FI) (st : StD) (fj : FI) (st1 : StD) (f : F) (vs vs1 : List Nat) : F := fun ε m => (fLc2N fi st fj st1 f vs vs1 ε m).map fun p => (.lst p.1, p.2)
section
variable {X : Cx} {pos : Pos} {elt tg iter tg1 iter1 : Expr} {ifs ifs1 : List Expr} {scope : Scope}
theorem drop_cons {ds : List D} {i : Nat} {d : D} (hd : ds[i]? = some d) : ds.drop i = d :: ds.drop (i + 1) := by
  obtain ⟨hlt, he⟩ := List.getElem?_eq_some_iff.mp hd
  rw [← he]
  exact List.drop_eq_getElem_cons hlt
theorem lc2_allN {fi fj : FI} {gt gt1 : TG} {st st1 : StD} {is is1 vs vs1 : List Nat} {f : F} (hgf : GFits gt st is) (hgf1 : GFits gt1 st1 is1) (hv : ∀ i ∈ is, i ∈ vs) (hv1 : ∀ i ∈ is1, i ∈ vs1) {σ : L2.St} {H : Hp} {Q : VK} (h : tDN (fLc2N fi st fj st1 f vs vs1) σ H Q) :
    tLc2 (tDI fi) gt (tDT fYes) (tDI fj) gt1 (tDT fYes) (tD f) vs vs1 σ H Q := by
  obtain ⟨μ, ε, m, d, m', re, ok, e, q⟩ := h
  unfold fLc2N at e
  cases e1 : fi ε m with
  | none => rw [e1] at e; cases e
  | some p =>
    obtain ⟨ds, m1⟩ := p
    rw [e1] at e
    simp only [Option.bind_some] at e
    refine ⟨μ, ε, m, ds, m1, re, ok, e1, fun J H1 p1 ok1 w L hn => ?_⟩
    obtain ⟨G, Y, W, hG, hY⟩ := w.ex
    have reb := ((re.grow p1).ke (ke_hide hn (.lst []))).wipe vs
    refine in_it W (fun i H2 => ∃ out m2, LcI μ H1 L (upd H1 L (.lst [])) H2 out m2 ∧ lc2D st fj st1 f vs1 (wipeE ε vs) (ds.drop i) out m2 = some (d, m')) ⟨[], m1, lcI_start ok1 hn, e⟩ (fun i H2 _ ⟨out, m2, I, _⟩ => hG _ H2 I.ke) (fun i x H2 H3 hi2 ⟨out, m2, I, e3⟩ y => ?_) (fun H2 ⟨out, m2, I, e3⟩ => ?_)
    · obtain ⟨p3, ok3, d, hd, rd⟩ := hY i _ H2 x H3 m2 I.ke I.ok hi2 y
      rw [drop_cons hd] at e3
      unfold lc2D at e3
      have I3 := I.grow p3 ok3
      have reW : REnv (hideM μ L) H3 (wipe σ vs) (wipeE ε vs) := reb.ke I3.kb
      cases e4 : st d (wipeE ε vs) with
      | none => rw [e4] at e3; cases e3
      | some ε1 =>
        rw [e4] at e3
        simp only [Option.bind_some] at e3
        refine hgf _ H3 x d _ _ ε1 _ rd reW e4 fun σ2 re2 l2 k2 => ⟨?_, ?_⟩
        · rw [← wipe_wipe (σ := σ)]
          exact wipe_eq l2 fun j hj => k2 j fun z => hj (hv j z)
        · refine ⟨hideM μ L, ε1, m2, true, m2, re2, ok3, rfl, fun H4 p4 ok4 => ?_⟩
          refine iteT ?_
          have I4 := I3.grow p4 ok4
          cases e5 : fj ε1 m2 with
          | none => rw [e5] at e3; cases e3
          | some p =>
            obtain ⟨es, m5⟩ := p
            rw [e5] at e3
            simp only [Option.bind_some] at e3
            cases e6 : lcD st1 fYes f (wipeE ε1 vs1) es out m5 with
            | none => rw [e6] at e3; cases e3
            | some r6 =>
              rw [e6] at e3
              simp only [Option.bind_some] at e3
              refine ⟨hideM μ L, ε1, m2, es, m5, re2.grow p4, ok4, e5, fun J1 H5 p5 ok5 w1 => ?_⟩
              obtain ⟨G1, Y1, W1, hG1, hY1⟩ := w1.ex
              have I5 := I4.grow p5 ok5
              have reb1 : REnv (hideM μ L) H5 (wipe σ2 vs1) (wipeE ε1 vs1) := (((re2.grow p4).grow p5)).wipe vs1
              refine in_it (Body := fun Nx1 x H' => gt1 x (wipe σ2 vs1) H' fun σ3 H5 => wipe σ3 vs1 = wipe σ2 vs1 ∧ tDT fYes σ3 H5 fun b H6 => if b = true then tD f σ3 H6 fun y H7 => ∃ acc, H7 L = some (.lst acc) ∧ acc.length < sizeLine ∧ Nx1 (upd H7 L (.lst (acc ++ [y]))) else Nx1 H6) W1
                (fun j H2 => ∃ out m2, LcI μ H1 L H5 H2 out m2 ∧ lcD st1 fYes f (wipeE ε1 vs1) (es.drop j) out m2 = some r6) ⟨out, m5, I5.rebase, e6⟩ (fun j H2 _ ⟨out, m2, I, _⟩ => hG1 _ H2 I.kb) (fun j x1 H6 H7 hj ⟨out1, m6, I6, e7⟩ y1 => ?_) (fun H6 ⟨out1, m6, I6, e7⟩ => ?_)
              · obtain ⟨p7, ok7, d1, hd1, rd1⟩ := hY1 j _ H6 x1 H7 m6 I6.kb I6.ok hj y1
                exact lc_turn hgf1 hv1 reb1 hn I6 hd1 e7 p7 ok7 rd1
              · rw [List.drop_length] at e7
                cases e7
                exact ⟨out1, m6, I6.debase I5.kb, e3⟩
    · rw [List.drop_length] at e3
      cases e3
      obtain ⟨p4, ok4, hf, acc, h4, r4⟩ := I.fin (ok1.free hn).2
      exact q L H2 acc (p1.trans p4) ok4 (p1.free hn) h4 hf r4
theorem lc2_all {fi fj : FI} {gt gt1 : TG} {st st1 : StD} {is is1 vs vs1 : List Nat} {f : F} (hgf : GFits gt st is) (hgf1 : GFits gt1 st1 is1) (hv : ∀ i ∈ is, i ∈ vs) (hv1 : ∀ i ∈ is1, i ∈ vs1) {σ : L2.St} {H : Hp} {Q : VK} (h : tD (fLc2 fi st fj st1 f vs vs1) σ H Q) :
    tLc2 (tDI fi) gt (tDT fYes) (tDI fj) gt1 (tDT fYes) (tD f) vs vs1 σ H Q := lc2_allN hgf hgf1 hv hv1 (tDN_of h)
theorem d_lc2 {vs vs1 : List Nat} {own : List (Str × Nat)} {fi fj : FI} {gt gt1 : TG} {st st1 : StD} {is is1 : List Nat} {f : F} (hc : X.calm = true) (hN : X.N.Nodup) (hi : PI X tg iter (tDI fi)) (ok : BlkOk X.N X.env.scope scope own)
    (hg : ∀ (s : Shared) (H : Hp) (C : Addr) (cl : List (Str × Addr)) (fp : List Addr), PG (X.blk s H scope (compEnvC scope cl C X.env) fp) tg gt) (hgf : GFits gt st is)
    (hi1 : ∀ (s : Shared) (H : Hp) (C : Addr) (cl : List (Str × Addr)) (fp : List Addr), PI (X.blk s H scope (compEnvC scope cl C X.env) fp) tg1 iter1 (tDI fj))
    (hg1 : ∀ (s : Shared) (H : Hp) (C : Addr) (cl : List (Str × Addr)) (fp : List Addr), PG (X.blk s H scope (compEnvC scope cl C X.env) fp) tg1 gt1) (hgf1 : GFits gt1 st1 is1)
    (he : ∀ (s : Shared) (H : Hp) (C : Addr) (cl : List (Str × Addr)) (fp : List Addr), PE (X.blk s H scope (compEnvC scope cl C X.env) fp) elt (tD f)) (hvs : own.map (·.2) = vs := by rfl) (hv : ∀ i ∈ is, i ∈ vs := by decide) (hv1 : ∀ i ∈ is1, i ∈ vs1 := by decide) (hv2 : ∀ i ∈ vs1, i ∈ vs := by decide)
    (hs : ∀ x, foldedSetIterable iter X.env x = pure x := by intro _; rfl) (hs1 : ∀ env x, foldedSetIterable iter1 env x = pure x := by intro _ _; rfl) :
    PE X (.ListComp elt [⟨tg, iter, [], 0⟩, ⟨tg1, iter1, [], 0⟩] scope pos) (tD (fLc2 fi st fj st1 f vs vs1)) := by
  subst hvs
  exact PE.weak (pe_lc2 hc hN hi ok hv2 hg (fun _ _ _ _ _ => dts_nil) hi1 hg1 (fun _ _ _ _ _ => dts_nil) he hs hs1) fun _ _ _ h => lc2_all hgf hgf1 hv hv1 h
/-! ### a star in a display -/
def faStar (f : F) (g : FA) : FA := fun ε m => (f ε m).bind fun p => match p.1 with
  | .tup l => (g ε p.2).map fun q => (l ++ q.1, q.2)
  | .lst l => (g ε p.2).map fun q => (l ++ q.1, q.2)
  | _ => none
theorem da_star {a : Expr} {fa : F} {es : List Expr} {g : FA} {p : Pos} (ha : PE X a (tD fa)) (hr : PA X es (tDA g)) (hs : starEach (.Starred a p :: es) X.env = (true, eval a X.env) :: starEach es X.env := by rfl) : PA X (.Starred a p :: es) (tDA (faStar fa g)) := by
  refine PA.weak (StX.pa_star ha hr hs) fun σ H Q ⟨μ, ε, m, k, m', re, ok, e, q⟩ => ?_
  unfold faStar at e
  cases e1 : fa ε m with
  | none => rw [e1] at e; cases e
  | some p =>
    obtain ⟨d1, m1⟩ := p
    rw [e1] at e
    simp only [Option.bind_some] at e
    refine tD.step re ok e1 fun v H1 p1 ok1 re1 r1 => ?_
    cases r1 with
    | @tup a vs ds h hn rs =>
      have e : ((g ε m1).map fun q => (ds ++ q.1, q.2)) = some (k, m') := e
      cases e2 : g ε m1 with
      | none => rw [e2] at e; cases e
      | some p2 =>
        rw [e2] at e
        cases e
        exact ⟨a, vs, rfl, .inl (SqT.of h), tDA.step re1 ok1 e2 fun ws H2 p2 ok2 _ r2 => q _ H2 (p1.trans p2) ok2 ((rs.grow p2).append r2)⟩
    | @lst a vs ds h hn rs =>
      have e : ((g ε m1).map fun q => (ds ++ q.1, q.2)) = some (k, m') := e
      cases e2 : g ε m1 with
      | none => rw [e2] at e; cases e
      | some p2 =>
        rw [e2] at e
        cases e
        exact ⟨a, vs, rfl, .inr (SqL.of h), tDA.step re1 ok1 e2 fun ws H2 p2 ok2 _ r2 => q _ H2 (p1.trans p2) ok2 ((rs.grow p2).append r2)⟩
    | _ => cases e
end
end DL
end
section
set_option Elab.async false
set_option linter.all false
set_option maxRecDepth 100000
set_option maxHeartbeats 2000000
namespace DL
open PySem PySem.Spec PyProof.Rows L2
/-! ### {elt for target in iter}: elt an int or a text -/
/-- a key is put in -/
theorem key_put {X : Cx} {pins : List (Addr × Obj)} {σ : L2.St} {H : Hp} {s : Shared} {L : Addr} {z : Key} {u : Value} {S : Key → Bool} {n : Nat} {E : Value → Shared → Prop} {Q : Value → Shared → Prop} (I : Inv X pins σ H s) (ru : RelV (kV z) u)
    (hL : H L = some (SetK X.prog X.w L S n)) (hn : n + 1 < scanBound) (h : ∀ v t, Inv X pins σ (upd H L (SetK X.prog X.w L (fun j => S j || decide (j = z)) (if S z = true then n else n + 1))) t → Q v t) :
    wpAny (model X.prog X.w) X.A (call (.builtin "set.add") [.ref L, u]) Q E s := by
  refine call_set_add (kV_is ru) (key_scan ru) (setK_get I hL) hn fun g same isSet => ?_
  obtain ⟨ob, a1, a2, a3, hob, _⟩ := id isSet
  have mH : Mut (H L) := by rw [hL]; trivial
  exact h _ _ (I.write (e := L) (t' := s.toks + 1) mH (.inl rfl) (fun b w hb hw => (same.2 b hb).trans hw) ⟨ob, hob⟩ (setK_new isSet))
def tScK (P : Program) (w : World) (wi : TI) (g : TG) (te : TE) (vs : List Nat) : TE := fun σ H Q => wi σ H fun J G1 => ∀ L, G1 L = none → ∃ W : Nat → Nat → Hp → Prop, (∃ m, W 0 m (upd G1 L (SetK P w L (fun _ => false) 0))) ∧ ∀ i m G, W i m G →
  (J.stop i G ∧ Q (.ref L) G) ∨ (J.go i G ∧ ∃ Nx : Hp → Prop, (∀ G', Nx G' → ∃ m', m' < m ∧ W (i + 1) m' G') ∧ ∀ x G', J.yld i G x G' → g x (wipe σ vs) G' fun ρ G2 => wipe ρ vs = wipe σ vs ∧
    te ρ G2 fun y G3 => ∃ (z : Key) (S : Key → Bool) (n : Nat), y = kV z ∧ G3 L = some (SetK P w L S n) ∧ n + 1 < scanBound ∧ Nx (upd G3 L (SetK P w L (fun j => S j || decide (j = z)) (if S z = true then n else n + 1))))
section
variable {X : Cx} {elt tg iter : Expr} {scope : Scope} {own : List (Str × Nat)} {pos : Pos} {wi : TI} {g : TG} {te : TE}
theorem pe_scK (hc : X.calm = true) (hN : X.N.Nodup) (hi : PI X tg iter wi) (ok : BlkOk X.N X.env.scope scope own)
    (hg : ∀ (s : Shared) (H : Hp) (C : Addr) (cl : List (Str × Addr)) (fp : List Addr), PG (X.blk s H scope (compEnvC scope cl C X.env) fp) tg g)
    (he : ∀ (s : Shared) (H : Hp) (C : Addr) (cl : List (Str × Addr)) (fp : List Addr), PE (X.blk s H scope (compEnvC scope cl C X.env) fp) elt te) (hs : ∀ x, foldedSetIterable iter X.env x = pure x := by intro _; rfl) :
    PE X (.SetComp elt [⟨tg, iter, [], 0⟩] scope pos) (tScK X.prog X.w wi g te (own.map (·.2))) := by
  refine ⟨fun pins s σ H Q I h => ?_⟩
  rw [PpSet.eval_SetComp]
  have clo : ∀ y ∈ scope.names, y.2 = .free → ∃ c, X.env.cells.lookup y.1 = some c := fun y hy e => I.ok.has _ (ok.free y hy e)
  have uni : ∀ y ∈ scope.names, scope.names.lookup y.1 = some y.2 := ok.uniq
  refine wpAny_comprehension_free (use := none) rfl hs (closure_ok clo) ok.kind (fun y hy e => by rw [uni y hy, e]) (thn (hi.run pins s σ H _ I h) fun xv sA hx => thn hx fun itv sB ⟨it, fp, tn, J, G1, eIt, IB, T, stB, fB, q⟩ => ?_)
  subst eIt
  refine PpSet.newSet_ok (newEnv_comp ?_)
  -- L: the new set; C: the block's frame
  obtain ⟨L, hL⟩ : ∃ L, sB.heap.objs.size = L := ⟨_, rfl⟩
  have freeL : G1 L = none := IB.hok.fresh (Nat.le_of_eq hL)
  obtain ⟨W, ⟨k0, w0⟩, turn⟩ := q L freeL
  rw [hL]
  let ob : Obj := { cls := .type "set", dict := none, data := .set #[] 0 (.fresh 0 0 (!X.w.params.followText "set-order")) }
  obtain ⟨sC, hsC⟩ : ∃ t : Shared, t = { sB with heap := sB.heap.push ob } := ⟨_, rfl⟩
  have heapC : sC.heap = sB.heap.push ob := by rw [hsC]
  obtain ⟨G0, hG0⟩ : ∃ G0, G0 = upd G1 L (SetK X.prog X.w L (fun _ => false) 0) := ⟨_, rfl⟩
  have IC : Inv X pins σ G0 sC := by
    rw [hsC, hG0]
    have isSet : (sB.heap.push ob).SetOf (mixKind X.prog X.w) L (fun _ => false) 0 := by
      rw [← hL]
      exact ⟨_, #[], 0, _, Heap.get?_push_size _ rfl, ⟨rfl, rfl, rfl⟩, rfl, (fun e he => by simp at he), (fun k => by simp), (by decide), (by rfl), rfl⟩
    exact IB.laid (t' := sB.toks) (fun b o e => Heap.get?_push_of_some _ e) (Nat.le_of_eq hL) (setK_new isSet)
  have below : ∀ b ∈ fp, b < sB.heap.objs.size := fun b hb => let ⟨_, e, _⟩ := T.obj _ _ stB b hb; Heap.lt_size e
  have fpC : ∀ b ∈ fp, FpOk X pins G0 b ∧ b < sC.heap.objs.size := fun b hb => by
    have lt := below b hb
    have neL : b ≠ L := by rw [← hL]; exact Nat.ne_of_lt lt
    obtain ⟨u1, u2⟩ := fB b hb
    exact ⟨⟨by rw [hG0, upd_ne neL]; exact u1, u2⟩, by rw [heapC, Heap.size_push]; exact Nat.lt_succ_of_lt lt⟩
  have stC : tn 0 sC.heap := T.keep _ _ _ stB fun b _ o e => by rw [heapC]; exact Heap.get?_push_of_some _ e
  have ID := block_start IC ok hN fpC
  obtain ⟨C, hC⟩ : ∃ C, sC.heap.objs.size = C := ⟨_, rfl⟩
  obtain ⟨cl, hcl⟩ : ∃ cl, cellsFrom (C + 1) scope.names (cloFrom X.env.cells scope.names []) = cl := ⟨_, rfl⟩
  rw [hC, hcl] at ID
  show codeAny _ _ (.compStart (.SetComp elt [⟨tg, iter, [], 0⟩] scope pos) 0 (.ref it) (.ref L) (compEnvC scope (cellsFrom ((sB.heap.push ob).objs.size + 1) scope.names (cloFrom X.env.cells scope.names [])) (sB.heap.push ob).objs.size X.env)) (compPost (model X.prog X.w) X.A X.xe none (EP X pins σ Q) (.ref L) (sB.heap.push ob).objs.size) { sB with heap := pushCells ((sB.heap.push ob).push { cls := .type "dict", data := .dict #[] }) scope.names }
  rw [← heapC, hC, hcl]
  obtain ⟨ce, hce⟩ : ∃ ce, compEnvC scope cl C X.env = ce := ⟨_, rfl⟩
  have gRun := hg sC G0 C cl fp
  have eRun := he sC G0 C cl fp
  rw [hce] at ID gRun eRun ⊢
  have locC : ce.locals = C := by rw [← hce]; rfl
  obtain ⟨sD, hsD⟩ : ∃ t : Shared, t = { sC with heap := pushCells (sC.heap.push { cls := .type "dict", data := .dict #[] }) scope.names } := ⟨_, rfl⟩
  have sD' : ({ sB with heap := pushCells (sC.heap.push { cls := .type "dict", data := .dict #[] }) scope.names } : Shared) = sD := by rw [hsD, hsC]
  rw [sD']
  rw [← hsD] at ID
  have stD : tn 0 sD.heap := T.keep _ _ _ stC fun b _ o e => by rw [hsD]; exact pushCells_keeps _ _ _ _ (Heap.get?_push_of_some _ e)
  have outside : ∀ {ρ : L2.St} {G : Hp} {t : Shared}, Inv (X.blk sC G0 scope ce fp) [] ρ G t → (∀ b ∈ fp, G b = none) → ∀ b ∈ fp, FpOk (X.blk sC G0 scope ce fp) [] G b := fun {ρ G t} J1 hn b hb => by
    obtain ⟨e1, e2⟩ := J1.ok.exf b hb
    exact ⟨hn b hb, e1, J1.ok.exfs b hb, .inl hb, fun x c e => e2 x c e, fun p hp => absurd (show p ∈ ([] : List (Addr × Obj)) ++ [] from hp) (by simp)⟩
  have loop : codeAny (model X.prog X.w) X.A (.compLoop (.SetComp elt [⟨tg, iter, [], 0⟩] scope pos) 0 (.ref it) (.ref L) ce) (compPost (model X.prog X.w) X.A X.xe none (EP X pins σ Q) (.ref L) C) sD := by
    refine PpSet.compLoopS_any (fun n t => ∃ i G, Inv (X.blk sC G0 scope ce fp) [] (wipe σ (own.map (·.2))) G t ∧ tn i t.heap ∧ (∀ b ∈ fp, G b = none) ∧ W i n G) ?_ k0 ⟨0, G0, ID, stD, fun b hb => (fpC b hb).1.1, by rw [hG0]; exact w0⟩
    rintro n tA ⟨i, GA, JA, stA, nA, wA⟩
    rcases turn i n GA wA with ⟨halt, qq⟩ | ⟨goes, Nx, hNx, step⟩
    · refine thnF (T.done (X.blk sC G0 scope ce fp) rfl rfl rfl hc i [] tA _ GA (fun _ _ => False) JA (outside JA nA) stA halt) fun r tB ⟨hr, JB⟩ => ?_
      subst hr
      have back : Inv X pins σ GA tB := IC.call' (ch := fp) JB.os JB.base JB.hok JB.bare fun b hb => by
        obtain ⟨_, v1, v2, v3, v4, v5⟩ := (fpC b hb).1
        exact ⟨v3, v1, v4, v5⟩
      have freeC : GA C = none := by rw [← locC]; exact JB.free
      obtain ⟨m, hm, _⟩ := JB.loc
      have hm : tB.heap.Ns ce.locals m := hm
      rw [locC] at hm
      have fC := IC.fpOk (Nat.le_of_eq hC) freeC
      refine ⟨m, hm, fun h'' sb => ?_⟩
      obtain ⟨z0, z1, z2, z3, z4, z5⟩ := fC
      exact ⟨.ref L, GA, back.turned (t' := tB.toks) (fun b o hb e => (sb.2 b hb).trans e) z0 z1 z3 z4 z5, rfl, qq⟩
    · refine thnF (T.item (X.blk sC G0 scope ce fp) rfl rfl rfl hc i [] tA _ GA (fun _ _ => False) JA (outside JA nA) stA goes) fun r tB ⟨u, hr, hB⟩ => ?_
      subst hr
      refine thnF hB fun _ tC ⟨x, GC, JC, rC, yC, stC', nC⟩ => ?_
      have JC' := JC.pinned (outside JC nC) (T.obj _ _ stC')
      refine thnF (gRun.run _ tC _ GC x u _ JC' rC (step x GC yC)) fun _ tE ⟨ρ, GE, JE, hw, qE⟩ => ?_
      refine (show wpAny _ _ (pure true) _ _ _ from wpAny_pure ?_)
      refine iteT (thnF (eRun.run _ tE ρ GE _ JE qE) fun z tF ⟨yv, GF, JF, rF, key, S0, n0, ey, hLF, hroom, nx⟩ => ?_)
      subst ey
      refine key_put (X := X.blk sC G0 scope ce fp) JF rF hLF hroom fun _ tG JG => ?_
      obtain ⟨m', hm', w'⟩ := hNx _ nx
      have pinned : ∀ b ∈ fp, ∀ o, tC.heap.get? b = some o → tG.heap.get? b = some o ∧ _ := fun b hb o e => (JG.pin (b, o) (List.mem_append_right _ (List.mem_append_right _ (mem_pinsAt hb e)))).imp id And.left
      have same : (wipe σ (own.map (·.2))).length = ρ.length := by rw [← hw, wipe_length]
      refine ⟨m', hm', i + 1, _, (JG.unpinned (pins := [])).weak same (fun j v e => ?_), T.keep _ _ _ stC' fun b hb o e => (pinned b hb o e).1, fun b hb => ?_, w'⟩
      · rw [← hw] at e; exact (wipe_some e).1
      · obtain ⟨o, e, _⟩ := T.obj _ _ stC' b hb
        exact (pinned b hb o e).2
  exact PpSet.codeAny_compStart_set loop (T.self X.A 0 _ _ _ stD loop)
end
/-- the length of a set of keys -/
theorem call_len_setK {X : Cx} : CallR X (.builtin "len") (fun xs H Q => ∃ (L : Addr) (S : Key → Bool) (n : Nat), xs = [V.ref L] ∧ H L = some (SetK X.prog X.w L S n) ∧ Q (.int n) H) := by
  intro pins s σ H xs us Q I r ⟨L, S, n, e, hL, q⟩
  subst e
  have e2 := Vals.ref1 r
  subst e2
  obtain ⟨o, es, ep, t, ho, hex, hd, _, _, hb, hf, hn⟩ := setK_get I hL
  exact call_len_set ho hex hd hf (by have : scanBound = 4096 := rfl; omega) ⟨.int n, H, I.tok _, ⟨_, by rw [hn]⟩, q⟩
def memK (acc : List L2.Key) (k : L2.Key) : Bool := acc.any fun j => decide (k = j)
theorem memK_app (acc : List L2.Key) (k j : L2.Key) : memK (acc ++ [k]) j = (memK acc j || decide (j = k)) := by unfold memK; simp
def keyD : D → Option Key
  | .int i => some (.inl i)
  | .str s => some (.inr s)
  | _ => none
def putKey (acc : List Key) (k : Key) : List Key := if memK acc k = true then acc else acc ++ [k]
def scD (st : StD) (f : F) (ε : Ev) : List D → List Key → M → Option (List Key × M)
  | [], acc, m => some (acc, m)
  | d :: r, acc, m => (st d ε).bind fun ε1 => (f ε1 m).bind fun q => (keyD q.1).bind fun k => if acc.length + 1 < scanBound then scD st f ε r (putKey acc k) q.2 else none
def fLenSc (fi : FI) (st : StD) (f : F) (vs : List Nat) : F := fun ε m => (fi ε m).bind fun p => (scD st f (wipeE ε vs) p.1 [] p.2).map fun q => (.int q.1.length, q.2)
structure ScI (P : Program) (w : World) (μ : Mu) (H1 : Hp) (L : Addr) (H : Hp) (acc : List Key) (m : M) : Prop where
  ke : Ke μ H1 (hideM μ L) H
  kb : Ke (hideM μ L) (upd H1 L (SetK P w L (fun _ => false) 0)) (hideM μ L) H
  po : Post μ H1 μ H
  ok : MOk (hideM μ L) H m
  at_ : H L = some (SetK P w L (memK acc) acc.length)
theorem scI_start {P : Program} {w : World} {μ : Mu} {H1 : Hp} {L : Addr} {m : M} (ok : MOk μ H1 m) (hn : H1 L = none) : ScI P w μ H1 L (upd H1 L (SetK P w L (fun _ => false) 0)) [] m :=
  ⟨ke_hide hn _, Ke.refl _ _, post_new hn _, ok.hide hn _, upd_same⟩
theorem ScI.grow {P : Program} {w : World} {μ : Mu} {H1 H H2 : Hp} {L : Addr} {acc : List Key} {m m2 : M} (i : ScI P w μ H1 L H acc m) (p : Post (hideM μ L) H (hideM μ L) H2) (ok2 : MOk (hideM μ L) H2 m2) : ScI P w μ H1 L H2 acc m2 := by
  have nl : L ∉ μ.l := (i.ok.hid L List.mem_cons_self).1
  refine ⟨i.ke.trans p.ke, i.kb.trans p.ke, ⟨⟨[], by simp, by simp⟩, fun a o h hn => p.keep a o (i.po.keep a o h hn) hn, fun a o h => ?_⟩, ok2, p.keep L _ i.at_ nl⟩
  obtain ⟨o1, e1⟩ := i.po.dom a o h
  exact p.dom a o1 e1
theorem ScI.put {P : Program} {w : World} {μ : Mu} {H1 H : Hp} {L : Addr} {acc : List Key} {m : M} (hn : H1 L = none) (i : ScI P w μ H1 L H acc m) (k : Key) :
    ScI P w μ H1 L (upd H L (SetK P w L (fun j => memK acc j || decide (j = k)) (if memK acc k = true then acc.length else acc.length + 1))) (putKey acc k) m := by
  refine ⟨i.ke.trans (ke_write _), i.kb.trans (ke_write _), ⟨⟨[], by simp, by simp⟩, fun a o h hm => ?_, fun a o h => ?_⟩, i.ok.write _, ?_⟩
  · rw [upd_ne (ne_of_none h hn)]; exact i.po.keep a o h hm
  · obtain ⟨o1, e1⟩ := i.po.dom a o h
    exact ⟨o1, by rw [upd_ne (ne_of_none h hn)]; exact e1⟩
  · rw [upd_same]
    unfold putKey
    by_cases hk : memK acc k = true
    · rw [if_pos hk, if_pos hk]
      congr 2
      funext j
      by_cases hj : j = k
      · subst hj; simp [hk]
      · simp [hj]
    · rw [if_neg hk, if_neg hk]
      have e2 : (acc ++ [k]).length = acc.length + 1 := by simp
      rw [e2]
      congr 2
      funext j
      exact (memK_app acc k j).symm
section
variable {X : Cx} {elt tg iter : Expr} {scope : Scope} {pos p pos2 : Pos}
theorem d_lenSc {vs : List Nat} {own : List (Str × Nat)} {fi : FI} {gt : TG} {st : StD} {is : List Nat} {f : F} (hgL : Gl X "len") (hm : X.mg "len" = none) (hc : X.calm = true) (hN : X.N.Nodup) (hi : PI X tg iter (tDI fi)) (ok : BlkOk X.N X.env.scope scope own)
    (hg : ∀ (s : Shared) (H : Hp) (C : Addr) (cl : List (Str × Addr)) (fp : List Addr), PG (X.blk s H scope (compEnvC scope cl C X.env) fp) tg gt) (hgf : GFits gt st is)
    (he : ∀ (s : Shared) (H : Hp) (C : Addr) (cl : List (Str × Addr)) (fp : List Addr), PE (X.blk s H scope (compEnvC scope cl C X.env) fp) elt (tD f)) (hvs : own.map (·.2) = vs := by rfl) (hv : ∀ i ∈ is, i ∈ vs := by decide) (hs : ∀ x, foldedSetIterable iter X.env x = pure x := by intro _; rfl)
    (hst : starEach [.SetComp elt [⟨tg, iter, [], 0⟩] scope pos2] X.env = (false, eval (.SetComp elt [⟨tg, iter, [], 0⟩] scope pos2) X.env) :: starEach [] X.env := by rfl) :
    PE X (.Call (.Name "len" p) [.SetComp elt [⟨tg, iter, [], 0⟩] scope pos2] [] pos) (tD (fLenSc fi st f vs)) := by
  subst hvs
  refine PE.weak (pe_callB call_len_setK hgL hm PySem.boot_len (pa_cons (pe_scK hc hN hi ok hg he hs) pa_nil hst) (by decide +kernel) (by decide +kernel) hst rfl) fun σ H Q ⟨μ, ε, m, d, m', re, ok, e, q⟩ => ?_
  unfold fLenSc at e
  cases e1 : fi ε m with
  | none => rw [e1] at e; cases e
  | some p =>
    obtain ⟨ds, m1⟩ := p
    rw [e1] at e
    simp only [Option.bind_some] at e
    cases e2 : scD st f (wipeE ε (own.map (·.2))) ds [] m1 with
    | none => rw [e2] at e; cases e
    | some res =>
      rw [e2] at e
      simp at e
      obtain ⟨rfl, rfl⟩ := e
      refine ⟨μ, ε, m, ds, m1, re, ok, e1, fun J H1 p1 ok1 w L hn => ?_⟩
      obtain ⟨G, Y, W, hG, hY⟩ := w.ex
      have re1 := ((re.grow p1).ke (ke_hide hn (SetK X.prog X.w L (fun _ => false) 0))).wipe (own.map (·.2))
      refine in_it (Body := fun Nx x G' => gt x (wipe σ (own.map (·.2))) G' fun ρ G2 => wipe ρ (own.map (·.2)) = wipe σ (own.map (·.2)) ∧ tD f ρ G2 fun y G3 => ∃ (z : Key) (S : Key → Bool) (n : Nat), y = kV z ∧ G3 L = some (SetK X.prog X.w L S n) ∧ n + 1 < scanBound ∧ Nx (upd G3 L (SetK X.prog X.w L (fun j => S j || decide (j = z)) (if S z = true then n else n + 1)))) W
        (fun i H2 => ∃ acc m2, ScI X.prog X.w μ H1 L H2 acc m2 ∧ scD st f (wipeE ε (own.map (·.2))) (ds.drop i) acc m2 = some res) ⟨[], m1, scI_start ok1 hn, e2⟩ (fun i H2 _ ⟨acc, m2, I, _⟩ => hG _ H2 I.ke) (fun i x H2 H3 hi2 ⟨acc, m2, I, e3⟩ y => ?_) (fun H2 ⟨acc, m2, I, e3⟩ => ?_)
      · obtain ⟨p3, ok3, d, hd, rd⟩ := hY i _ H2 x H3 m2 I.ke I.ok hi2 y
        have I3 := I.grow p3 ok3
        rw [drop_cons hd] at e3
        unfold scD at e3
        cases e4 : st d (wipeE ε (own.map (·.2))) with
        | none => rw [e4] at e3; cases e3
        | some ε1 =>
          rw [e4] at e3
          simp only [Option.bind_some] at e3
          refine hgf _ H3 x d _ _ ε1 _ rd (re1.ke I3.kb) e4 fun σ2 re2 l2 k2 => ⟨?_, ?_⟩
          · rw [← wipe_wipe (σ := σ)]
            exact wipe_eq l2 fun j hj => k2 j fun z => hj (hv j z)
          · cases e5 : f ε1 m2 with
            | none => rw [e5] at e3; cases e3
            | some p =>
              obtain ⟨y5, m5⟩ := p
              rw [e5] at e3
              simp only [Option.bind_some] at e3
              cases e6 : keyD y5 with
              | none => rw [e6] at e3; cases e3
              | some key =>
                rw [e6] at e3
                simp only [Option.bind_some] at e3
                split at e3
                · rename_i hl
                  refine tD.step re2 ok3 e5 fun v H5 p5 ok5 re5 r5 => ?_
                  have I5 := I3.grow p5 ok5
                  refine ⟨key, _, _, ?_, I5.at_, hl, putKey acc key, m5, I5.put hn key, e3⟩
                  cases r5 with
                  | int i => cases e6; rfl
                  | str z => cases e6; rfl
                  | _ => cases e6
                · cases e3
      · rw [List.drop_length] at e3
        cases e3
        exact ⟨L, _, _, rfl, I.at_, q _ H2 (p1.trans I.po) I.ok.show (.int _)⟩
end
end DL
end
section
set_option Elab.async false
set_option linter.all false
set_option maxRecDepth 100000
namespace DL
open PySem PySem.Spec PyProof.Rows L2
section
variable {X : Cx} {a b c : Expr} {fa fb fc : F} {pos : Pos} {elt tg iter tg1 iter1 : Expr} {scope : Scope}
/-! ### expressions that make new lists -/
def fRevN (f : F) : FN := fun ε m => (f ε m).bind fun p => match p.1 with
  | .lst l => some (l.reverse, p.2)
  | .mr k => p.2[k]?.map fun l => (l.reverse, p.2)
  | _ => none
theorem dn_rev {k : Nat} {p1 p2 p3 : Pos} (ha : PE X a (tD fa)) : PE X (.Subscript a (.Slice none none (some (.UnaryOp .USub (.Constant (.int 1) k p1) p2)) p3) pos) (tDN (fRevN fa)) := by
  refine PE.weak (pe_revL ha) fun σ H Q ⟨μ, ε, m, ds, m', re, ok, e, q⟩ => ?_
  unfold fRevN at e
  cases e1 : fa ε m with
  | none => rw [e1] at e; cases e
  | some p =>
    obtain ⟨d, m1⟩ := p
    rw [e1] at e
    simp only [Option.bind_some] at e
    refine tD.step re ok e1 fun v H1 p1 ok1 re1 r1 => ?_
    have fin : ∀ {ad vs l}, H1 ad = some (.lst vs) → Reps μ H1 vs l → ds = l.reverse → m' = m1 → ∃ a xs, V.ref ad = .ref a ∧ SqL X.K H1 a xs ∧ ∀ p, H1 p = none → Q (.ref p) (upd H1 p (.lst xs.reverse)) := by
      intro ad vs l h rs hd hm
      subst hd hm
      exact ⟨ad, vs, rfl, SqL.of h, fun b hb => q b _ _ (p1.trans (post_new hb _)) (ok1.new hb _) (p1.free hb) upd_same (ok1.free hb) ((rs.grow (post_new hb _)).reverse)⟩
    cases r1 with
    | @lst ad vs l h hn rs =>
      have e : some (l.reverse, m1) = some (ds, m') := e
      cases e
      exact fin h rs rfl rfl
    | @mr ad k h =>
      have e : (m1[k]?.map fun l => (l.reverse, m1)) = some (ds, m') := e
      cases e2 : m1[k]? with
      | none => rw [e2] at e; cases e
      | some l =>
        rw [e2] at e
        cases e
        obtain ⟨vs, hv, rs⟩ := ok1.at_ k ad l h e2
        exact fin hv rs rfl rfl
    | _ => cases e
theorem dn_lc2 {vs vs1 : List Nat} {own : List (Str × Nat)} {fi fj : FI} {gt gt1 : TG} {st st1 : StD} {is is1 : List Nat} {f : F} (hc : X.calm = true) (hN : X.N.Nodup) (hi : PI X tg iter (tDI fi)) (ok : BlkOk X.N X.env.scope scope own)
    (hg : ∀ (s : Shared) (H : Hp) (C : Addr) (cl : List (Str × Addr)) (fp : List Addr), PG (X.blk s H scope (compEnvC scope cl C X.env) fp) tg gt) (hgf : GFits gt st is)
    (hi1 : ∀ (s : Shared) (H : Hp) (C : Addr) (cl : List (Str × Addr)) (fp : List Addr), PI (X.blk s H scope (compEnvC scope cl C X.env) fp) tg1 iter1 (tDI fj))
    (hg1 : ∀ (s : Shared) (H : Hp) (C : Addr) (cl : List (Str × Addr)) (fp : List Addr), PG (X.blk s H scope (compEnvC scope cl C X.env) fp) tg1 gt1) (hgf1 : GFits gt1 st1 is1)
    (he : ∀ (s : Shared) (H : Hp) (C : Addr) (cl : List (Str × Addr)) (fp : List Addr), PE (X.blk s H scope (compEnvC scope cl C X.env) fp) elt (tD f)) (hvs : own.map (·.2) = vs := by rfl) (hv : ∀ i ∈ is, i ∈ vs := by decide) (hv1 : ∀ i ∈ is1, i ∈ vs1 := by decide) (hv2 : ∀ i ∈ vs1, i ∈ vs := by decide)
    (hs : ∀ x, foldedSetIterable iter X.env x = pure x := by intro _; rfl) (hs1 : ∀ env x, foldedSetIterable iter1 env x = pure x := by intro _ _; rfl) :
    PE X (.ListComp elt [⟨tg, iter, [], 0⟩, ⟨tg1, iter1, [], 0⟩] scope pos) (tDN (fLc2N fi st fj st1 f vs vs1)) := by
  subst hvs
  exact PE.weak (pe_lc2 hc hN hi ok hv2 hg (fun _ _ _ _ _ => dts_nil) hi1 hg1 (fun _ _ _ _ _ => dts_nil) he hs hs1) fun _ _ _ h => lc2_allN hgf hgf1 hv hv1 h
/-! ### a new list is returned, or kept to be changed -/
def sRetN (f : FN) : FS := fun ε m => (f ε m).map fun p => .rn p.1 p.2
theorem ds_retN {f : FN} (ha : PE X a (tDN f)) : PS X (.Return (some a) pos) (tDS (sRetN f)) := by
  refine PS.weak (ps_ret ha) fun D σ H ⟨μ, ε, m, o, re, ok, e, q⟩ => ?_
  unfold sRetN at e
  cases e1 : f ε m with
  | none => rw [e1] at e; cases e
  | some p =>
    rw [e1] at e
    cases e
    exact ⟨μ, ε, m, p.1, p.2, re, ok, e1, fun a H' vs p1 ok1 hn h1 hf rs => q μ a H' vs p1 ok1 hn h1 hf rs⟩
mutual
/-- no list inside -/
def tupD : D → Bool
  | .tup l => tupsD l
  | .lst _ => false
  | .mr _ => false
  | _ => true
def tupsD : List D → Bool
  | [] => true
  | d :: r => tupD d && tupsD r
end
theorem tup_rep {μ μ' : Mu} {H : Hp} (hf : ∀ a xs, H a = some (.tup xs) → μ.Free a → μ'.Free a) :
    (∀ v d, Rep μ H v d → tupD d = true → Rep μ' H v d) ∧ (∀ vs ds, Reps μ H vs ds → tupsD ds = true → Reps μ' H vs ds) := by
  refine ⟨fun v d r => ?_, fun vs ds r => ?_⟩
  · exact Rep.rec (motive_1 := fun v d _ => tupD d = true → Rep μ' H v d) (motive_2 := fun vs ds _ => tupsD ds = true → Reps μ' H vs ds)
      (fun _ => .non) (fun b _ => .bl b) (fun i _ => .int i) (fun s _ => .str s) (fun h hn _ ih hp => .tup h (hf _ _ h hn) (ih (by rw [tupD] at hp; exact hp))) (fun h hn _ ih hp => by rw [tupD] at hp; cases hp) (fun h hp => by rw [tupD] at hp; cases hp)
      (fun _ => .nil) (fun _ _ ih1 ih2 hp => by
        rw [tupsD, Bool.and_eq_true] at hp
        exact .cons (ih1 hp.1) (ih2 hp.2)) r
  · exact Reps.rec (motive_1 := fun v d _ => tupD d = true → Rep μ' H v d) (motive_2 := fun vs ds _ => tupsD ds = true → Reps μ' H vs ds)
      (fun _ => .non) (fun b _ => .bl b) (fun i _ => .int i) (fun s _ => .str s) (fun h hn _ ih hp => .tup h (hf _ _ h hn) (ih (by rw [tupD] at hp; exact hp))) (fun h hn _ ih hp => by rw [tupD] at hp; cases hp) (fun h hp => by rw [tupD] at hp; cases hp)
      (fun _ => .nil) (fun _ _ ih1 ih2 hp => by
        rw [tupsD, Bool.and_eq_true] at hp
        exact .cons (ih1 hp.1) (ih2 hp.2)) r
def sOwnN (i : Nat) (f : FN) : FS := fun ε m => (f ε m).bind fun p => if p.2.all tupsD = true ∧ tupsD p.1 = true then some (.nx (ε.set i (some (.mr p.2.length))) (p.2 ++ [p.1])) else none
theorem own_is {μ : Mu} {H H1 : Hp} {m : M} {p : Addr} {vs : List V} {ds : List D} (po : Post μ H μ H1) (ok : MOk μ H1 m) (hp : H p = none) (h1 : H1 p = some (.lst vs)) (hf : μ.Free p) (rs : Reps μ H1 vs ds) (hm : m.all tupsD = true) (hd : tupsD ds = true) :
    Post μ H ⟨μ.l ++ [p], μ.h⟩ H1 ∧ MOk ⟨μ.l ++ [p], μ.h⟩ H1 (m ++ [ds]) ∧ Rep ⟨μ.l ++ [p], μ.h⟩ H1 (.ref p) (.mr m.length) := by
  have fr : ∀ a xs, H1 a = some (.tup xs) → μ.Free a → Mu.Free ⟨μ.l ++ [p], μ.h⟩ a := fun a xs ha hfa => by
    refine ⟨fun z => ?_, hfa.2⟩
    rcases List.mem_append.mp z with z | z
    · exact hfa.1 z
    · rw [List.mem_singleton.mp z, h1] at ha; cases ha
  refine ⟨⟨⟨[p], rfl, fun a ha => by rw [List.mem_singleton.mp ha]; exact hp⟩, po.keep, po.dom⟩, ⟨?_, by simp [ok.len], ?_, ?_⟩, .mr (by show (μ.l ++ [p])[m.length]? = some p; rw [ok.len, List.getElem?_append_right (Nat.le_refl _)]; simp)⟩
  · refine List.nodup_append.mpr ⟨ok.nd, by simp, ?_⟩
    intro a ha b hb
    rw [List.mem_singleton.mp hb]
    rintro rfl
    exact hf.1 ha
  · intro k a es e1 e2
    have e1 : (μ.l ++ [p])[k]? = some a := e1
    by_cases hk : k < μ.l.length
    · rw [List.getElem?_append_left hk] at e1
      rw [List.getElem?_append_left (by rw [ok.len]; exact hk)] at e2
      obtain ⟨ws, e, r⟩ := ok.at_ k a es e1 e2
      exact ⟨ws, e, (tup_rep fr).2 ws es r (List.all_eq_true.mp hm es (List.mem_of_getElem? e2))⟩
    · rw [List.getElem?_append_right (by omega)] at e1
      rw [List.getElem?_append_right (by rw [ok.len]; omega)] at e2
      have hk2 : k - μ.l.length = 0 := by
        have := (List.getElem?_eq_some_iff.mp e1).1
        simp at this
        omega
      rw [hk2] at e1
      rw [ok.len, hk2] at e2
      simp at e1 e2
      subst e1 e2
      exact ⟨vs, h1, (tup_rep fr).2 vs _ rs hd⟩
  · intro b hb
    obtain ⟨n, o, e⟩ := ok.hid b hb
    refine ⟨fun z => ?_, o, e⟩
    rcases List.mem_append.mp z with z | z
    · exact n z
    · rw [List.mem_singleton.mp z] at hb; exact hf.2 hb
theorem ds_ownN {i : Nat} {x : Str} {f : FN} {pos' : Pos} (hN : X.N.Nodup) (hi : X.N[i]? = some x) (hx : Loc X.env.scope x) (ha : PE X a (tDN f)) (hs : swapsWith a (some (.Name x pos')) pos.line X.env = pure false := by rfl)
    (hf : X.fn x = true ∨ X.env.scope.names.lookup x = some .local := by first | exact .inl rfl | exact .inr rfl | assumption) : PS X (.Assign [.Name x pos'] a pos) (tDS (sOwnN i f)) := by
  refine PS.weak (ps_set hN hi hx ha hs hf) fun D σ H ⟨μ, ε, m, o, re, ok, e, q⟩ => ?_
  unfold sOwnN at e
  cases e1 : f ε m with
  | none => rw [e1] at e; cases e
  | some p =>
    obtain ⟨ds, m1⟩ := p
    rw [e1] at e
    simp only [Option.bind_some] at e
    split at e
    · rename_i hc
      cases e
      refine ⟨μ, ε, m, ds, m1, re, ok, e1, fun p H1 vs p1 ok1 hp h1 hfp rs => ?_⟩
      obtain ⟨po, ok2, rp⟩ := own_is p1 ok1 hp h1 hfp rs hc.1 hc.2
      exact q _ _ _ po ((re.grow po).set rp i) ok2
    · cases e
/-! ### a def that hands back a new list -/
abbrev FDN := List D → M → Option (List D × M)
def spN (g : FDN) : Sp := fun vs H Q _ => ∃ μ ds m es m', Reps μ H vs ds ∧ MOk μ H m ∧ g ds m = some (es, m') ∧ ∀ p H' ws, Post μ H μ H' → MOk μ H' m' → H p = none → H' p = some (.lst ws) → μ.Free p → Reps μ H' ws es → Q (.ref p) H'
def fCallN (g : FDN) (fs : FA) : FN := fun ε m => (fs ε m).bind fun p => g p.1 p.2
theorem dn_call {k : Nat} {f : Addr} {fd : FuncData} {ps : List Str} {x : Str} {p : Pos} {g : FDN} {es : List Expr} {fs : FA} (G : FnOk X.prog X.w X.K X.mg X.base CX0 k f fd ps (spN g)) (hr : Room k X.A) (hg : Gl X x) (hm : X.mg x = some (.ref f)) (hk : PySem.W.keepIn X.K (.ref f) = true)
    (hb : Binds X.K fd ps []) (ha : PA X (a :: es) (tDA fs)) (hdb : (x == ("__debug__" : Str)) = false := by decide) (he : starEach (a :: es) X.env = (false, eval a X.env) :: starEach es X.env := by rfl) (hpl : (backTo pos (starEach es X.env)).any (·.1) = false := by rfl) : PE X (.Call (.Name x p) (a :: es) [] pos) (tDN (fCallN g fs)) := by
  refine PE.weak (pe_call G hr hg hm hk hb .nil pass0 ha hdb he hpl) fun σ H Q ⟨μ, ε, m, d, m', re, ok, e, q⟩ => ?_
  unfold fCallN at e
  cases e1 : fs ε m with
  | none => rw [e1] at e; cases e
  | some p =>
    obtain ⟨ds, m1⟩ := p
    rw [e1] at e
    simp only [Option.bind_some] at e
    refine tDA.step re ok e1 fun vs H1 p1 ok1 re1 r1 => ?_
    exact ⟨μ, ds, m1, d, m', by rw [List.append_nil]; exact r1, ok1, e, fun a H2 ws p2 ok2 hn h2 hf r2 => q a H2 ws (p1.trans p2) ok2 (p1.free hn) h2 hf r2⟩
def finN (n : Nat) (ds : List D) (m' : M) : Option (List D × M) := if m'.length = n then some (ds, m') else if (m'.take n).all puresD = true ∧ puresD ds = true then some (ds, m'.take n) else none
def fnN (np n : Nat) (body : FS) : FDN := fun ds m => if ds.length = np then (body (ds.map some ++ List.replicate (n - np) none) m).bind fun o => match o with
  | .rn es m' => finN m.length es m'
  | _ => none else none
theorem finN_ok {μ μ' : Mu} {H H' : Hp} {a : Addr} {ws : List V} {es es2 : List D} {m' m2 : M} {n : Nat} (hn : n = μ.l.length) (p : Post μ H μ' H') (ok : MOk μ' H' m') (ha : H' a = some (.lst ws)) (hf : μ'.Free a) (r : Reps μ' H' ws es) (e : finN n es m' = some (es2, m2)) :
    Post μ H μ H' ∧ MOk μ H' m2 ∧ μ.Free a ∧ Reps μ H' ws es2 := by
  obtain ⟨ν, e0, hν⟩ := id p.pre
  have hf2 : μ.Free a := by rw [e0] at hf; exact ⟨fun z => hf.1 (List.mem_append_left _ z), hf.2⟩
  have hff : ∀ a, μ'.Free a → μ.Free a := fun a h => by rw [e0] at h; exact ⟨fun z => h.1 (List.mem_append_left _ z), h.2⟩
  have e1 : finD n (.lst es) m' = some (.lst es2, m2) := by
    unfold finN at e
    unfold finD
    split at e
    · cases e
      rename_i hl
      rw [if_pos hl]
    · rename_i hl
      rw [if_neg hl]
      split at e
      · rename_i hc
        cases e
        rw [if_pos hc.1]
        unfold finR pureD
        simp [hc.2]
      · cases e
  obtain ⟨h1, h2, h3⟩ := fin_ok hn p ok (.lst ha hf r) e1
  refine ⟨h1, h2, hf2, ?_⟩
  cases h3 with
  | lst h4 _ rs =>
    rw [ha] at h4
    cases h4
    exact rs
end
section
variable {P : Program} {w : World} {K : PySem.W.Frag} {mg : Str → Option Value} {base : Heap}
theorem d_fnN {x qual : Str} {st : Stmt} {f : Addr} {fd : FuncData} {N ps : List Str} {k : Nat} {body : FS} (Fn : Fun K x qual st f fd) (S : FnScope N ps (defScope st))
    (hbody : ∀ (cdv : Value) (A : Around) (outer : List Env) (s : Shared) (H : Hp) (E : XK), Room k (A.deeper (envOfC qual (defScope st) s.heap.objs.size f cdv)) →
      PSs (cxOf CX0 P w K mg base N qual (defScope st) f cdv A outer s H E).nox (defBody st) (tDS body)) : FnOk P w K mg base CX0 (k + 1) f fd ps (spN (fnN ps.length N.length body)) := by
  refine Fn.ok S (fun vs H Q E h => ?_) (fun cdv A outer s H vs Q E hr h => ⟨_, hbody cdv A outer s H E hr, ?_⟩)
  · obtain ⟨μ, ds, m, d, m', rs, ok, e, _⟩ := h
    unfold fnN at e
    split at e
    · rename_i hl; rw [rs.length, hl]
    · cases e
  · obtain ⟨μ, ds, m, d, m', rs, ok, e, q⟩ := h
    unfold fnN at e
    split at e
    · rename_i hl
      cases e1 : body (ds.map some ++ List.replicate (N.length - ps.length) none) m with
      | none => rw [e1] at e; cases e
      | some o =>
        rw [e1] at e
        simp only [Option.bind_some] at e
        refine ⟨μ, _, m, o, start_env rs, ok, by rw [hl]; exact e1, ?_⟩
        cases o with
        | rn es m1 =>
          intro μ' a H' ws p ok' hn ha hf rs'
          obtain ⟨h1, h2, h3, h4⟩ := finN_ok ok.len p ok' ha hf rs' e
          exact q a H' ws h1 h2 hn ha h3 h4
        | rt d1 m1 => cases e
        | nx ε1 m1 => cases e
        | bk ε1 m1 => cases e
        | ct ε1 m1 => cases e
    · cases e
end
end DL
end
section
set_option Elab.async false
set_option linter.all false
set_option maxRecDepth 100000
namespace DL
open PySem PySem.Spec PyProof.Rows L2
/-! ### xs[lo::c] -/
def pickI (n : Nat) (lo : Option Int) (c : Int) : List Nat := sliceRange (sliceBounds lo none (some c) n).1 (sliceBounds lo none (some c) n).2.1 (sliceBounds lo none (some c) n).2.2
theorem pick_some {α : Type} {xs : List α} {i : Nat} {is : List Nat} {x : α} (h : xs[i]? = some x) : (i :: is).filterMap (xs[·]?) = x :: is.filterMap (xs[·]?) := by
  rw [List.filterMap_cons_some h]
theorem pick_none {α : Type} {xs : List α} {i : Nat} {is : List Nat} (h : xs[i]? = none) : (i :: is).filterMap (xs[·]?) = is.filterMap (xs[·]?) := by
  rw [List.filterMap_cons_none h]
theorem vals_pick {xs : List V} {us : List Value} (r : Vals xs us) : ∀ is : List Nat, Vals (is.filterMap (xs[·]?)) (is.filterMap (us[·]?))
  | [] => .nil
  | i :: is => by
    cases e : xs[i]? with
    | none => rw [pick_none e, pick_none (r.none_of e)]; exact vals_pick r is
    | some x =>
      obtain ⟨u, hu, ru⟩ := r.get e
      rw [pick_some e, pick_some hu]
      exact .cons ru (vals_pick r is)
theorem Reps.pick {μ : Mu} {H : Hp} {vs : List V} {ds : List D} (r : Reps μ H vs ds) : ∀ is : List Nat, Reps μ H (is.filterMap (vs[·]?)) (is.filterMap (ds[·]?))
  | [] => .nil
  | i :: is => by
    cases e : ds[i]? with
    | none =>
      have e2 : vs[i]? = none := by
        have := List.getElem?_eq_none_iff.mp e
        exact List.getElem?_eq_none_iff.mpr (by rw [r.length]; exact this)
      rw [pick_none e, pick_none e2]; exact Reps.pick r is
    | some d =>
      obtain ⟨v, hv, rv⟩ := r.get e
      rw [pick_some e, pick_some hv]
      exact .cons rv (Reps.pick r is)
theorem pick_len {α : Type} (xs : List α) : ∀ is : List Nat, (is.filterMap (xs[·]?)).length ≤ is.length := fun is => List.length_filterMap_le _ _
def fStepN (f : F) (fl : F) (c : Int) : FN := fun ε m => (f ε m).bind fun p => (fl ε p.2).bind fun q => match p.1, q.1 with
  | .lst l, .int i => if (pickI l.length (some i) c).length ≤ sizeLine then some ((pickI l.length (some i) c).filterMap (l[·]?), q.2) else none
  | _, _ => none
section
variable {X : Cx} {a b : Expr} {fa fb : F} {pos : Pos}
theorem dn_step {k : Nat} {c : Int} {p1 p3 : Pos} (hc0 : c ≠ 0) (ha : PE X a (tD fa)) (hb : PE X b (tD fb)) : PE X (.Subscript a (.Slice (some b) none (some (.Constant (.int c) k p1)) p3) pos) (tDN (fStepN fa fb c)) := by
  refine ⟨fun pins s σ H Q I ⟨μ, ε, m, ds, m', re, ok, e, q⟩ => ?_⟩
  unfold fStepN at e
  cases e1 : fa ε m with
  | none => rw [e1] at e; cases e
  | some pr =>
    obtain ⟨d, m1⟩ := pr
    rw [e1] at e
    simp only [Option.bind_some] at e
    cases e2 : fb ε m1 with
    | none => rw [e2] at e; cases e
    | some pr =>
      obtain ⟨di, m2⟩ := pr
      rw [e2] at e
      simp only [Option.bind_some] at e
      cases d with
      | lst l =>
        cases di with
        | int i =>
          have e : (if (pickI l.length (some i) c).length ≤ sizeLine then some ((pickI l.length (some i) c).filterMap (l[·]?), m2) else none) = some (ds, m') := e
          split at e
          · rename_i hz0
            have e3 := Option.some.inj e
            have e4 : (pickI l.length (some i) c).filterMap (l[·]?) = ds := congrArg Prod.fst e3
            have e5 : m2 = m' := congrArg Prod.snd e3
            rw [← e4, ← e5] at q
            refine Subscript_ (thn (ha.run pins s σ H _ I ⟨μ, ε, m, _, m1, re, ok, e1, fun v H1 p1 ok1 r1 => (⟨p1, ok1, r1⟩ : Post μ H μ H1 ∧ MOk μ H1 m1 ∧ Rep μ H1 v (.lst l))⟩) fun v s1 ⟨x, H1, I1, r1, q1⟩ => ?_)
            obtain ⟨po1, ok1, rp1⟩ := q1
            refine wpAny_Slice (thn ((po_some hb).run pins s1 σ H1 (fun o H2 => o = some i ∧ Post μ H1 μ H2 ∧ MOk μ H2 m2) I1 (tD.step (re.grow po1) ok1 e2 fun w H2 p2 ok2 re2 r2 => by cases r2; exact ⟨i, rfl, rfl, p2, ok2⟩)) fun vl s2 ⟨lo, H2, I2, pl, el, po2, ok2⟩ => ?_)
            subst el
            refine thn (po_none.run pins s2 σ H2 (fun o H3 => o = none ∧ H3 = H2) I2 ⟨rfl, rfl⟩) fun vu s3 ⟨u, H3, I3, pu, eu, e3⟩ => ?_
            subst eu e3
            have hst : PO X (some (.Constant (.int c) k p1)) (tPart (tC (.int c))) := po_some pe_int
            refine thn (hst.run pins s3 σ H3 (fun o H4 => o = some c ∧ H4 = H3) I3 ⟨c, rfl, rfl, rfl⟩) fun vs4 s4 ⟨o, H4, I4, ps, eo, e4⟩ => ?_
            subst eo e4
            cases rp1.grow po2 with
            | @lst ad ws _ h hn rs =>
              cases r1
              obtain ⟨sl, hsl⟩ : ∃ t : Shared, t = { s4 with heap := s4.heap.push { cls := .type "slice", data := .fields #[vl, vu, vs4] } } := ⟨_, rfl⟩
              have I5 : Inv X pins σ H4 sl := by rw [hsl]; exact I4.kept (t' := s4.toks) fun b ob q => Heap.get?_push_of_some _ q
              obtain ⟨its, r, ht, hz⟩ := I5.list (SqL.of h)
              have hlen := r.length
              show wpAny (model X.prog X.w) X.A (subscriptTail a _ (.ref ad) (.ref s4.heap.objs.size)) (EP X pins σ Q) X.xe { s4 with heap := s4.heap.push { cls := .type "slice", data := .fields #[vl, vu, vs4] } }
              rw [← hsl]
              refine tail_any (ops := [.ref ad, .ref s4.heap.objs.size]) ht.isList.typeIs (PySem.slot_list_getitem.lookup) ?_ (by with_unfolding_all rfl)
              have isl : sl.heap.IsSliceOf s4.heap.objs.size vl vu vs4 := by rw [hsl]; exact Heap.IsSliceOf.new _ vl vu vs4
              refine wpAny_getItem_list_slice ht.isList isl pl pu ps (by intro z; exact hc0 (Option.some.inj z)) ?_ (by rw [List.size_toArray]; omega)
              have ep : slicePick its.toArray (some i) none (some c) = ((pickI l.length (some i) c).filterMap (its[·]?)).toArray := by
                unfold slicePick pickI
                rw [List.size_toArray, ← hlen, rs.length]
                simp
              rw [ep]
              have len2 : ((pickI l.length (some i) c).filterMap (ws[·]?)).length ≤ sizeLine := Nat.le_trans (pick_len ws _) hz0
              have fresh := I5.hok.fresh (Nat.le_refl sl.heap.objs.size)
              refine ⟨.ref _, _, I5.laid (t' := sl.toks) (o := .lst ((pickI l.length (some i) c).filterMap (ws[·]?))) (fun b ob q => Heap.get?_push_of_some _ q) (Nat.le_refl _) ⟨len2, _, 0, vals_pick r _, Heap.get?_push_size _ rfl⟩, rfl, ?_⟩
              have pp := po1.trans po2
              exact q _ _ _ (pp.trans (post_new fresh _)) (ok2.new fresh _) (pp.free fresh) upd_same (ok2.free fresh) ((rs.pick _).grow (post_new fresh _))
          · cases e
        | _ => cases e
      | _ => cases di <;> cases e
end
end DL
end
section
set_option Elab.async false
set_option linter.all false
set_option maxRecDepth 100000
set_option maxHeartbeats 4000000
namespace KK
open PySem PySem.Spec PyProof.Rows L2 DL

def top (i : Nat) : Stmt := PySem.Challenge.pw_termsonwires_k01_judges_and_places.main.body.getD i (.Pass ⟨0, 0, 0, 0⟩)
abbrev s_is_integer : Stmt := top 7
abbrev s_is_string : Stmt := top 8
abbrev s_is_tuple : Stmt := top 9
abbrev s_is_within : Stmt := top 10
abbrev s_is_tuple_of : Stmt := top 11
abbrev s_is_sign : Stmt := top 12
abbrev s_is_text : Stmt := top 13
abbrev s_is_atom : Stmt := top 14
abbrev s_is_bits : Stmt := top 15
abbrev s_is_bits_of : Stmt := top 16
abbrev s_is_name : Stmt := top 17
abbrev s_is_path : Stmt := top 18
abbrev s_is_ascending : Stmt := top 19
abbrev s_is_bits_term : Stmt := top 38
abbrev s_is_table_row : Stmt := top 39
abbrev s_is_table_term : Stmt := top 40
abbrev s_is_width_term : Stmt := top 41
abbrev s_is_row_term : Stmt := top 42
abbrev s_is_way : Stmt := top 43
abbrev s_is_either_term : Stmt := top 44
abbrev s_is_times_term : Stmt := top 45
abbrev s_is_two_part_term : Stmt := top 46
abbrev s_is_until_term : Stmt := top 47
abbrev s_is_machine_row : Stmt := top 48
abbrev s_is_machine : Stmt := top 49
abbrev s_is_checked_term : Stmt := top 50
abbrev s_is_ref_term : Stmt := top 51
abbrev s_is_term_within : Stmt := top 53
abbrev s_is_any_term : Stmt := top 54
abbrev s_is_entry : Stmt := top 55
abbrev s_is_any_sheet : Stmt := top 56
abbrev s_parts_of : Stmt := top 57
abbrev s_refs_of : Stmt := top 60
abbrev s_term_at : Stmt := top 62
abbrev s_paths_of : Stmt := top 64
abbrev s_term_of_name : Stmt := top 65
abbrev s_is_place_of : Stmt := top 66
abbrev s_need_sheet : Stmt := top 68
abbrev s_need_place : Stmt := top 72
abbrev s_is_term : Stmt := top 75
abbrev s_is_sheet : Stmt := top 76
abbrev s_places : Stmt := top 77
abbrev s_part : Stmt := top 78
abbrev s_rooted : Stmt := top 84
abbrev s_trimmed : Stmt := top 85
abbrev s_lifted : Stmt := top 86
abbrev s_inlined : Stmt := top 87
abbrev s_changed : Stmt := top 88
abbrev s_grafted : Stmt := top 89
abbrev s_renamed : Stmt := top 91
abbrev s_unrolled : Stmt := top 93
abbrev s_law_bag : Stmt := top 95
abbrev s_law_take : Stmt := top 96
abbrev s_law_bits : Stmt := top 97
abbrev s_law_atom : Stmt := top 98
abbrev s_law_label : Stmt := top 99
abbrev s_law_machine : Stmt := top 100
abbrev s_law_names : Stmt := top 101
abbrev s_law_known : Stmt := top 102
abbrev s_law_same : Stmt := top 103
abbrev s_law_parts : Stmt := top 104
abbrev s_law_paths : Stmt := top 105
abbrev s_law_at : Stmt := top 106
abbrev s_law_put : Stmt := top 107
abbrev s_law_places : Stmt := top 108
abbrev s_law_laid : Stmt := top 109
abbrev s_law_loose : Stmt := top 110
abbrev s_law_loose_sheet : Stmt := top 111
abbrev s_law_deep : Stmt := top 112
abbrev s_law_right : Stmt := top 113
abbrev s_law_wrong : Stmt := top 114
abbrev s_law_around : Stmt := top 115
abbrev s_law_bent : Stmt := top 116
abbrev s_law_asked : Stmt := top 117
abbrev s_law_spots : Stmt := top 118
abbrev s_law : Stmt := top 119
inductive Fid where
  | is_integer | is_string | is_tuple | is_within | is_tuple_of | is_sign | is_text | is_atom | is_bits | is_bits_of | is_name | is_path | is_ascending | is_bits_term | is_table_row | is_table_term | is_width_term | is_row_term | is_way | is_either_term | is_times_term | is_two_part_term | is_until_term | is_machine_row | is_machine | is_checked_term | is_ref_term | is_term_within | is_any_term | is_entry | is_any_sheet | parts_of | refs_of | term_at | paths_of | term_of_name | is_place_of | need_sheet | need_place | is_term | is_sheet | places | part | rooted | trimmed | lifted | inlined | changed | grafted | renamed | unrolled | law_bag | law_take | law_bits | law_atom | law_label | law_machine | law_names | law_known | law_same | law_parts | law_paths | law_at | law_put | law_places | law_laid | law_loose | law_loose_sheet | law_deep | law_right | law_wrong | law_around | law_bent | law_asked | law_spots | law
abbrev nm : Fid → Str
  | .is_integer => (Str.ofString "is_integer")
  | .is_string => (Str.ofString "is_string")
  | .is_tuple => (Str.ofString "is_tuple")
  | .is_within => (Str.ofString "is_within")
  | .is_tuple_of => (Str.ofString "is_tuple_of")
  | .is_sign => (Str.ofString "is_sign")
  | .is_text => (Str.ofString "is_text")
  | .is_atom => (Str.ofString "is_atom")
  | .is_bits => (Str.ofString "is_bits")
  | .is_bits_of => (Str.ofString "is_bits_of")
  | .is_name => (Str.ofString "is_name")
  | .is_path => (Str.ofString "is_path")
  | .is_ascending => (Str.ofString "is_ascending")
  | .is_bits_term => (Str.ofString "is_bits_term")
  | .is_table_row => (Str.ofString "is_table_row")
  | .is_table_term => (Str.ofString "is_table_term")
  | .is_width_term => (Str.ofString "is_width_term")
  | .is_row_term => (Str.ofString "is_row_term")
  | .is_way => (Str.ofString "is_way")
  | .is_either_term => (Str.ofString "is_either_term")
  | .is_times_term => (Str.ofString "is_times_term")
  | .is_two_part_term => (Str.ofString "is_two_part_term")
  | .is_until_term => (Str.ofString "is_until_term")
  | .is_machine_row => (Str.ofString "is_machine_row")
  | .is_machine => (Str.ofString "is_machine")
  | .is_checked_term => (Str.ofString "is_checked_term")
  | .is_ref_term => (Str.ofString "is_ref_term")
  | .is_term_within => (Str.ofString "is_term_within")
  | .is_any_term => (Str.ofString "is_any_term")
  | .is_entry => (Str.ofString "is_entry")
  | .is_any_sheet => (Str.ofString "is_any_sheet")
  | .parts_of => (Str.ofString "parts_of")
  | .refs_of => (Str.ofString "refs_of")
  | .term_at => (Str.ofString "term_at")
  | .paths_of => (Str.ofString "paths_of")
  | .term_of_name => (Str.ofString "term_of_name")
  | .is_place_of => (Str.ofString "is_place_of")
  | .need_sheet => (Str.ofString "need_sheet")
  | .need_place => (Str.ofString "need_place")
  | .is_term => (Str.ofString "is_term")
  | .is_sheet => (Str.ofString "is_sheet")
  | .places => (Str.ofString "places")
  | .part => (Str.ofString "part")
  | .rooted => (Str.ofString "rooted")
  | .trimmed => (Str.ofString "trimmed")
  | .lifted => (Str.ofString "lifted")
  | .inlined => (Str.ofString "inlined")
  | .changed => (Str.ofString "changed")
  | .grafted => (Str.ofString "grafted")
  | .renamed => (Str.ofString "renamed")
  | .unrolled => (Str.ofString "unrolled")
  | .law_bag => (Str.ofString "_law_bag")
  | .law_take => (Str.ofString "_law_take")
  | .law_bits => (Str.ofString "_law_bits")
  | .law_atom => (Str.ofString "_law_atom")
  | .law_label => (Str.ofString "_law_label")
  | .law_machine => (Str.ofString "_law_machine")
  | .law_names => (Str.ofString "_law_names")
  | .law_known => (Str.ofString "_law_known")
  | .law_same => (Str.ofString "_law_same")
  | .law_parts => (Str.ofString "_law_parts")
  | .law_paths => (Str.ofString "_law_paths")
  | .law_at => (Str.ofString "_law_at")
  | .law_put => (Str.ofString "_law_put")
  | .law_places => (Str.ofString "_law_places")
  | .law_laid => (Str.ofString "_law_laid")
  | .law_loose => (Str.ofString "_law_loose")
  | .law_loose_sheet => (Str.ofString "_law_loose_sheet")
  | .law_deep => (Str.ofString "_law_deep")
  | .law_right => (Str.ofString "_law_right")
  | .law_wrong => (Str.ofString "_law_wrong")
  | .law_around => (Str.ofString "_law_around")
  | .law_bent => (Str.ofString "_law_bent")
  | .law_asked => (Str.ofString "_law_asked")
  | .law_spots => (Str.ofString "_law_spots")
  | .law => (Str.ofString "law")
abbrev ps : Fid → List Str
  | .is_integer => [(Str.ofString "value")]
  | .is_string => [(Str.ofString "value")]
  | .is_tuple => [(Str.ofString "value")]
  | .is_within => [(Str.ofString "value"), (Str.ofString "least"), (Str.ofString "most")]
  | .is_tuple_of => [(Str.ofString "value"), (Str.ofString "many")]
  | .is_sign => [(Str.ofString "char")]
  | .is_text => [(Str.ofString "value")]
  | .is_atom => [(Str.ofString "value")]
  | .is_bits => [(Str.ofString "value")]
  | .is_bits_of => [(Str.ofString "value"), (Str.ofString "least"), (Str.ofString "most")]
  | .is_name => [(Str.ofString "value")]
  | .is_path => [(Str.ofString "value")]
  | .is_ascending => [(Str.ofString "row")]
  | .is_bits_term => [(Str.ofString "value"), (Str.ofString "depth")]
  | .is_table_row => [(Str.ofString "value")]
  | .is_table_term => [(Str.ofString "value"), (Str.ofString "depth")]
  | .is_width_term => [(Str.ofString "value"), (Str.ofString "depth")]
  | .is_row_term => [(Str.ofString "value"), (Str.ofString "depth")]
  | .is_way => [(Str.ofString "value"), (Str.ofString "depth")]
  | .is_either_term => [(Str.ofString "value"), (Str.ofString "depth")]
  | .is_times_term => [(Str.ofString "value"), (Str.ofString "depth")]
  | .is_two_part_term => [(Str.ofString "value"), (Str.ofString "depth")]
  | .is_until_term => [(Str.ofString "value"), (Str.ofString "depth")]
  | .is_machine_row => [(Str.ofString "value"), (Str.ofString "many")]
  | .is_machine => [(Str.ofString "value")]
  | .is_checked_term => [(Str.ofString "value"), (Str.ofString "depth")]
  | .is_ref_term => [(Str.ofString "value"), (Str.ofString "depth")]
  | .is_term_within => [(Str.ofString "value"), (Str.ofString "depth")]
  | .is_any_term => [(Str.ofString "value")]
  | .is_entry => [(Str.ofString "value")]
  | .is_any_sheet => [(Str.ofString "value")]
  | .parts_of => [(Str.ofString "term")]
  | .refs_of => [(Str.ofString "term")]
  | .term_at => [(Str.ofString "term"), (Str.ofString "path")]
  | .paths_of => [(Str.ofString "term")]
  | .term_of_name => [(Str.ofString "sheet"), (Str.ofString "name")]
  | .is_place_of => [(Str.ofString "sheet"), (Str.ofString "value")]
  | .need_sheet => [(Str.ofString "value")]
  | .need_place => [(Str.ofString "sheet"), (Str.ofString "value")]
  | .is_term => [(Str.ofString "value")]
  | .is_sheet => [(Str.ofString "value")]
  | .places => [(Str.ofString "sheet")]
  | .part => [(Str.ofString "sheet"), (Str.ofString "place")]
  | .rooted => [(Str.ofString "sheet"), (Str.ofString "name")]
  | .trimmed => [(Str.ofString "sheet")]
  | .lifted => [(Str.ofString "sheet"), (Str.ofString "place"), (Str.ofString "name")]
  | .inlined => [(Str.ofString "sheet"), (Str.ofString "place")]
  | .changed => [(Str.ofString "sheet"), (Str.ofString "place"), (Str.ofString "term")]
  | .grafted => [(Str.ofString "sheet"), (Str.ofString "place"), (Str.ofString "other_sheet")]
  | .renamed => [(Str.ofString "sheet"), (Str.ofString "pairs")]
  | .unrolled => [(Str.ofString "sheet"), (Str.ofString "depth")]
  | .law_bag => [(Str.ofString "_law_cell"), (Str.ofString "_law_many")]
  | .law_take => [(Str.ofString "_law_bag_here"), (Str.ofString "_law_many")]
  | .law_bits => [(Str.ofString "_law_bag_here"), (Str.ofString "_law_many")]
  | .law_atom => [(Str.ofString "_law_bag_here"), (Str.ofString "_law_k")]
  | .law_label => [(Str.ofString "_law_bag_here"), (Str.ofString "_law_k")]
  | .law_machine => [(Str.ofString "_law_bag_here")]
  | .law_names => [(Str.ofString "_law_bag_here"), (Str.ofString "_law_many")]
  | .law_known => [(Str.ofString "_law_sheet")]
  | .law_same => [(Str.ofString "_law_heard"), (Str.ofString "_law_due")]
  | .law_parts => [(Str.ofString "_law_term")]
  | .law_paths => [(Str.ofString "_law_term"), (Str.ofString "_law_path")]
  | .law_at => [(Str.ofString "_law_term"), (Str.ofString "_law_path")]
  | .law_put => [(Str.ofString "_law_term"), (Str.ofString "_law_path"), (Str.ofString "_law_new")]
  | .law_places => [(Str.ofString "_law_sheet")]
  | .law_laid => [(Str.ofString "_law_sheet"), (Str.ofString "_law_place"), (Str.ofString "_law_new")]
  | .law_loose => [(Str.ofString "_law_bag_here"), (Str.ofString "_law_names_here"), (Str.ofString "_law_deep_here")]
  | .law_loose_sheet => [(Str.ofString "_law_bag_here")]
  | .law_deep => [(Str.ofString "_law_many"), (Str.ofString "_law_turn")]
  | .law_right => [(Str.ofString "_law_bag_here")]
  | .law_wrong => [(Str.ofString "_law_bag_here")]
  | .law_around => [(Str.ofString "_law_bag_here"), (Str.ofString "_law_sheet")]
  | .law_bent => [(Str.ofString "_law_bag_here"), (Str.ofString "_law_sheet"), (Str.ofString "_law_spots_here")]
  | .law_asked => [(Str.ofString "_law_way"), (Str.ofString "_law_sheet"), (Str.ofString "_law_other"), (Str.ofString "_law_third")]
  | .law_spots => [(Str.ofString "_law_bag_here"), (Str.ofString "_law_sheet"), (Str.ofString "_law_spots_here")]
  | .law => [(Str.ofString "_law_script")]
abbrev stm : Fid → Stmt
  | .is_integer => s_is_integer
  | .is_string => s_is_string
  | .is_tuple => s_is_tuple
  | .is_within => s_is_within
  | .is_tuple_of => s_is_tuple_of
  | .is_sign => s_is_sign
  | .is_text => s_is_text
  | .is_atom => s_is_atom
  | .is_bits => s_is_bits
  | .is_bits_of => s_is_bits_of
  | .is_name => s_is_name
  | .is_path => s_is_path
  | .is_ascending => s_is_ascending
  | .is_bits_term => s_is_bits_term
  | .is_table_row => s_is_table_row
  | .is_table_term => s_is_table_term
  | .is_width_term => s_is_width_term
  | .is_row_term => s_is_row_term
  | .is_way => s_is_way
  | .is_either_term => s_is_either_term
  | .is_times_term => s_is_times_term
  | .is_two_part_term => s_is_two_part_term
  | .is_until_term => s_is_until_term
  | .is_machine_row => s_is_machine_row
  | .is_machine => s_is_machine
  | .is_checked_term => s_is_checked_term
  | .is_ref_term => s_is_ref_term
  | .is_term_within => s_is_term_within
  | .is_any_term => s_is_any_term
  | .is_entry => s_is_entry
  | .is_any_sheet => s_is_any_sheet
  | .parts_of => s_parts_of
  | .refs_of => s_refs_of
  | .term_at => s_term_at
  | .paths_of => s_paths_of
  | .term_of_name => s_term_of_name
  | .is_place_of => s_is_place_of
  | .need_sheet => s_need_sheet
  | .need_place => s_need_place
  | .is_term => s_is_term
  | .is_sheet => s_is_sheet
  | .places => s_places
  | .part => s_part
  | .rooted => s_rooted
  | .trimmed => s_trimmed
  | .lifted => s_lifted
  | .inlined => s_inlined
  | .changed => s_changed
  | .grafted => s_grafted
  | .renamed => s_renamed
  | .unrolled => s_unrolled
  | .law_bag => s_law_bag
  | .law_take => s_law_take
  | .law_bits => s_law_bits
  | .law_atom => s_law_atom
  | .law_label => s_law_label
  | .law_machine => s_law_machine
  | .law_names => s_law_names
  | .law_known => s_law_known
  | .law_same => s_law_same
  | .law_parts => s_law_parts
  | .law_paths => s_law_paths
  | .law_at => s_law_at
  | .law_put => s_law_put
  | .law_places => s_law_places
  | .law_laid => s_law_laid
  | .law_loose => s_law_loose
  | .law_loose_sheet => s_law_loose_sheet
  | .law_deep => s_law_deep
  | .law_right => s_law_right
  | .law_wrong => s_law_wrong
  | .law_around => s_law_around
  | .law_bent => s_law_bent
  | .law_asked => s_law_asked
  | .law_spots => s_law_spots
  | .law => s_law
structure Txt (K : PySem.W.Frag) (mg : Str → Option Value) (ad : Fid → Addr) (fd : Fid → FuncData) : Prop where
  mgF : ∀ i, mg (nm i) = some (.ref (ad i))
  kp : ∀ i, PySem.W.keepIn K (.ref (ad i)) = true
  bd : ∀ i, Binds K (fd i) (ps i) []
  fn : ∀ i, Fun K (nm i) (nm i) (stm i) (ad i) (fd i)
  b_abs : mg (Str.ofString "abs") = none
  b_all : mg (Str.ofString "all") = none
  b_bool : mg (Str.ofString "bool") = none
  b_int : mg (Str.ofString "int") = none
  b_isinstance : mg (Str.ofString "isinstance") = none
  b_len : mg (Str.ofString "len") = none
  b_list : mg (Str.ofString "list") = none
  b_ord : mg (Str.ofString "ord") = none
  b_range : mg (Str.ofString "range") = none
  b_str : mg (Str.ofString "str") = none
  b_tuple : mg (Str.ofString "tuple") = none
  c_DIGITS : ∃ t, mg (Str.ofString "DIGITS") = some (.str (Str.ofString "0123456789") t)
  c_LETTERS : ∃ t, mg (Str.ofString "LETTERS") = some (.str (Str.ofString "abcdefghijklmnopqrstuvwxyz") t)
  c_PERCENT : ∃ t, mg (Str.ofString "PERCENT") = some (.int 37 t)
  c_ATOM_BOUND : ∃ t, mg (Str.ofString "ATOM_BOUND") = some (.int 10000000000000000000000000000000000000000 t)
  c_TEXT_SIGNS : ∃ t, mg (Str.ofString "TEXT_SIGNS") = some (.int 12 t)
  c_NAME_SIGNS : ∃ t, mg (Str.ofString "NAME_SIGNS") = some (.int 12 t)
  c_MOST_BITS : ∃ t, mg (Str.ofString "MOST_BITS") = some (.int 400 t)
  c_MOST_WIDTH : ∃ t, mg (Str.ofString "MOST_WIDTH") = some (.int 8 t)
  c_MOST_TIMES : ∃ t, mg (Str.ofString "MOST_TIMES") = some (.int 8 t)
  c_MOST_MARK : ∃ t, mg (Str.ofString "MOST_MARK") = some (.int 6 t)
  c_MOST_ROWS : ∃ t, mg (Str.ofString "MOST_ROWS") = some (.int 8 t)
  c_MOST_CHECK : ∃ t, mg (Str.ofString "MOST_CHECK") = some (.int 4 t)
  c_MOST_DEPTH : ∃ t, mg (Str.ofString "MOST_DEPTH") = some (.int 12 t)
  c_MOST_ENTRIES : ∃ t, mg (Str.ofString "MOST_ENTRIES") = some (.int 100 t)
abbrev Gs (P : Program) (w : World) (K : PySem.W.Frag) (mg : Str → Option Value) (base : Heap) (ad : Fid → Addr) (fd : Fid → FuncData) (n : Nat) (c : Fid → FD) : Prop := ∀ i, FnOk P w K mg base CX0 n (ad i) (fd i) (ps i) (spD (c i))
abbrev n_is_integer : List Str := [(Str.ofString "value")]
theorem sc_is_integer : FnScope n_is_integer (ps .is_integer) (defScope s_is_integer) := ⟨rfl, rfl, rfl, by decide +kernel, rfl, by decide +kernel, by decide +kernel⟩
abbrev n_is_string : List Str := [(Str.ofString "value")]
theorem sc_is_string : FnScope n_is_string (ps .is_string) (defScope s_is_string) := ⟨rfl, rfl, rfl, by decide +kernel, rfl, by decide +kernel, by decide +kernel⟩
abbrev n_is_tuple : List Str := [(Str.ofString "value")]
theorem sc_is_tuple : FnScope n_is_tuple (ps .is_tuple) (defScope s_is_tuple) := ⟨rfl, rfl, rfl, by decide +kernel, rfl, by decide +kernel, by decide +kernel⟩
abbrev n_is_within : List Str := [(Str.ofString "value"), (Str.ofString "least"), (Str.ofString "most")]
theorem sc_is_within : FnScope n_is_within (ps .is_within) (defScope s_is_within) := ⟨rfl, rfl, rfl, by decide +kernel, rfl, by decide +kernel, by decide +kernel⟩
abbrev n_is_tuple_of : List Str := [(Str.ofString "value"), (Str.ofString "many")]
theorem sc_is_tuple_of : FnScope n_is_tuple_of (ps .is_tuple_of) (defScope s_is_tuple_of) := ⟨rfl, rfl, rfl, by decide +kernel, rfl, by decide +kernel, by decide +kernel⟩
abbrev n_is_sign : List Str := [(Str.ofString "char")]
theorem sc_is_sign : FnScope n_is_sign (ps .is_sign) (defScope s_is_sign) := ⟨rfl, rfl, rfl, by decide +kernel, rfl, by decide +kernel, by decide +kernel⟩
abbrev n_is_text : List Str := [(Str.ofString "value"), (Str.ofString "char")]
theorem sc_is_text : FnScope n_is_text (ps .is_text) (defScope s_is_text) := ⟨rfl, rfl, rfl, by decide +kernel, rfl, by decide +kernel, by decide +kernel⟩
abbrev n_is_atom : List Str := [(Str.ofString "value")]
theorem sc_is_atom : FnScope n_is_atom (ps .is_atom) (defScope s_is_atom) := ⟨rfl, rfl, rfl, by decide +kernel, rfl, by decide +kernel, by decide +kernel⟩
abbrev n_is_bits : List Str := [(Str.ofString "value")]
theorem sc_is_bits : FnScope n_is_bits (ps .is_bits) (defScope s_is_bits) := ⟨rfl, rfl, rfl, by decide +kernel, rfl, by decide +kernel, by decide +kernel⟩
abbrev n_is_bits_of : List Str := [(Str.ofString "value"), (Str.ofString "least"), (Str.ofString "most")]
theorem sc_is_bits_of : FnScope n_is_bits_of (ps .is_bits_of) (defScope s_is_bits_of) := ⟨rfl, rfl, rfl, by decide +kernel, rfl, by decide +kernel, by decide +kernel⟩
abbrev n_is_name : List Str := [(Str.ofString "value"), (Str.ofString "char")]
theorem sc_is_name : FnScope n_is_name (ps .is_name) (defScope s_is_name) := ⟨rfl, rfl, rfl, by decide +kernel, rfl, by decide +kernel, by decide +kernel⟩
abbrev n_is_path : List Str := [(Str.ofString "value"), (Str.ofString "step")]
theorem sc_is_path : FnScope n_is_path (ps .is_path) (defScope s_is_path) := ⟨rfl, rfl, rfl, by decide +kernel, rfl, by decide +kernel, by decide +kernel⟩
abbrev n_is_ascending : List Str := [(Str.ofString "row"), (Str.ofString "k")]
theorem sc_is_ascending : FnScope n_is_ascending (ps .is_ascending) (defScope s_is_ascending) := ⟨rfl, rfl, rfl, by decide +kernel, rfl, by decide +kernel, by decide +kernel⟩
abbrev n_is_bits_term : List Str := [(Str.ofString "value"), (Str.ofString "depth")]
theorem sc_is_bits_term : FnScope n_is_bits_term (ps .is_bits_term) (defScope s_is_bits_term) := ⟨rfl, rfl, rfl, by decide +kernel, rfl, by decide +kernel, by decide +kernel⟩
abbrev n_is_table_row : List Str := [(Str.ofString "value")]
theorem sc_is_table_row : FnScope n_is_table_row (ps .is_table_row) (defScope s_is_table_row) := ⟨rfl, rfl, rfl, by decide +kernel, rfl, by decide +kernel, by decide +kernel⟩
abbrev n_is_table_term : List Str := [(Str.ofString "value"), (Str.ofString "depth"), (Str.ofString "row")]
theorem sc_is_table_term : FnScope n_is_table_term (ps .is_table_term) (defScope s_is_table_term) := ⟨rfl, rfl, rfl, by decide +kernel, rfl, by decide +kernel, by decide +kernel⟩
abbrev n_is_width_term : List Str := [(Str.ofString "value"), (Str.ofString "depth")]
theorem sc_is_width_term : FnScope n_is_width_term (ps .is_width_term) (defScope s_is_width_term) := ⟨rfl, rfl, rfl, by decide +kernel, rfl, by decide +kernel, by decide +kernel⟩
abbrev n_is_row_term : List Str := [(Str.ofString "value"), (Str.ofString "depth"), (Str.ofString "part")]
theorem sc_is_row_term : FnScope n_is_row_term (ps .is_row_term) (defScope s_is_row_term) := ⟨rfl, rfl, rfl, by decide +kernel, rfl, by decide +kernel, by decide +kernel⟩
abbrev n_is_way : List Str := [(Str.ofString "value"), (Str.ofString "depth")]
theorem sc_is_way : FnScope n_is_way (ps .is_way) (defScope s_is_way) := ⟨rfl, rfl, rfl, by decide +kernel, rfl, by decide +kernel, by decide +kernel⟩
abbrev n_is_either_term : List Str := [(Str.ofString "value"), (Str.ofString "depth"), (Str.ofString "way")]
theorem sc_is_either_term : FnScope n_is_either_term (ps .is_either_term) (defScope s_is_either_term) := ⟨rfl, rfl, rfl, by decide +kernel, rfl, by decide +kernel, by decide +kernel⟩
abbrev n_is_times_term : List Str := [(Str.ofString "value"), (Str.ofString "depth")]
theorem sc_is_times_term : FnScope n_is_times_term (ps .is_times_term) (defScope s_is_times_term) := ⟨rfl, rfl, rfl, by decide +kernel, rfl, by decide +kernel, by decide +kernel⟩
abbrev n_is_two_part_term : List Str := [(Str.ofString "value"), (Str.ofString "depth")]
theorem sc_is_two_part_term : FnScope n_is_two_part_term (ps .is_two_part_term) (defScope s_is_two_part_term) := ⟨rfl, rfl, rfl, by decide +kernel, rfl, by decide +kernel, by decide +kernel⟩
abbrev n_is_until_term : List Str := [(Str.ofString "value"), (Str.ofString "depth")]
theorem sc_is_until_term : FnScope n_is_until_term (ps .is_until_term) (defScope s_is_until_term) := ⟨rfl, rfl, rfl, by decide +kernel, rfl, by decide +kernel, by decide +kernel⟩
abbrev n_is_machine_row : List Str := [(Str.ofString "value"), (Str.ofString "many")]
theorem sc_is_machine_row : FnScope n_is_machine_row (ps .is_machine_row) (defScope s_is_machine_row) := ⟨rfl, rfl, rfl, by decide +kernel, rfl, by decide +kernel, by decide +kernel⟩
abbrev n_is_machine : List Str := [(Str.ofString "value"), (Str.ofString "row")]
theorem sc_is_machine : FnScope n_is_machine (ps .is_machine) (defScope s_is_machine) := ⟨rfl, rfl, rfl, by decide +kernel, rfl, by decide +kernel, by decide +kernel⟩
abbrev n_is_checked_term : List Str := [(Str.ofString "value"), (Str.ofString "depth")]
theorem sc_is_checked_term : FnScope n_is_checked_term (ps .is_checked_term) (defScope s_is_checked_term) := ⟨rfl, rfl, rfl, by decide +kernel, rfl, by decide +kernel, by decide +kernel⟩
abbrev n_is_ref_term : List Str := [(Str.ofString "value"), (Str.ofString "depth")]
theorem sc_is_ref_term : FnScope n_is_ref_term (ps .is_ref_term) (defScope s_is_ref_term) := ⟨rfl, rfl, rfl, by decide +kernel, rfl, by decide +kernel, by decide +kernel⟩
abbrev n_is_term_within : List Str := [(Str.ofString "value"), (Str.ofString "depth"), (Str.ofString "form")]
theorem sc_is_term_within : FnScope n_is_term_within (ps .is_term_within) (defScope s_is_term_within) := ⟨rfl, rfl, rfl, by decide +kernel, rfl, by decide +kernel, by decide +kernel⟩
abbrev n_is_any_term : List Str := [(Str.ofString "value")]
theorem sc_is_any_term : FnScope n_is_any_term (ps .is_any_term) (defScope s_is_any_term) := ⟨rfl, rfl, rfl, by decide +kernel, rfl, by decide +kernel, by decide +kernel⟩
abbrev n_is_entry : List Str := [(Str.ofString "value")]
theorem sc_is_entry : FnScope n_is_entry (ps .is_entry) (defScope s_is_entry) := ⟨rfl, rfl, rfl, by decide +kernel, rfl, by decide +kernel, by decide +kernel⟩
abbrev n_is_any_sheet : List Str := [(Str.ofString "value"), (Str.ofString "names"), (Str.ofString "name"), (Str.ofString "_"), (Str.ofString "term"), (Str.ofString "entry")]
theorem sc_is_any_sheet : FnScope n_is_any_sheet (ps .is_any_sheet) (defScope s_is_any_sheet) := ⟨rfl, rfl, rfl, by decide +kernel, rfl, by decide +kernel, by decide +kernel⟩
abbrev n_parts_of : List Str := [(Str.ofString "term"), (Str.ofString "word"), (Str.ofString "way")]
theorem sc_parts_of : FnScope n_parts_of (ps .parts_of) (defScope s_parts_of) := ⟨rfl, rfl, rfl, by decide +kernel, rfl, by decide +kernel, by decide +kernel⟩
abbrev n_refs_of : List Str := [(Str.ofString "term"), (Str.ofString "part"), (Str.ofString "name")]
theorem sc_refs_of : FnScope n_refs_of (ps .refs_of) (defScope s_refs_of) := ⟨rfl, rfl, rfl, by decide +kernel, rfl, by decide +kernel, by decide +kernel⟩
abbrev n_term_at : List Str := [(Str.ofString "term"), (Str.ofString "path"), (Str.ofString "step"), (Str.ofString "parts")]
theorem sc_term_at : FnScope n_term_at (ps .term_at) (defScope s_term_at) := ⟨rfl, rfl, rfl, by decide +kernel, rfl, by decide +kernel, by decide +kernel⟩
abbrev n_paths_of : List Str := [(Str.ofString "term"), (Str.ofString "paths"), (Str.ofString "parts"), (Str.ofString "k"), (Str.ofString "path")]
theorem sc_paths_of : FnScope n_paths_of (ps .paths_of) (defScope s_paths_of) := ⟨rfl, rfl, rfl, by decide +kernel, rfl, by decide +kernel, by decide +kernel⟩
abbrev n_term_of_name : List Str := [(Str.ofString "sheet"), (Str.ofString "name"), (Str.ofString "other"), (Str.ofString "term")]
theorem sc_term_of_name : FnScope n_term_of_name (ps .term_of_name) (defScope s_term_of_name) := ⟨rfl, rfl, rfl, by decide +kernel, rfl, by decide +kernel, by decide +kernel⟩
abbrev n_is_place_of : List Str := [(Str.ofString "sheet"), (Str.ofString "value"), (Str.ofString "term")]
theorem sc_is_place_of : FnScope n_is_place_of (ps .is_place_of) (defScope s_is_place_of) := ⟨rfl, rfl, rfl, by decide +kernel, rfl, by decide +kernel, by decide +kernel⟩
abbrev n_need_sheet : List Str := [(Str.ofString "value")]
theorem sc_need_sheet : FnScope n_need_sheet (ps .need_sheet) (defScope s_need_sheet) := ⟨rfl, rfl, rfl, by decide +kernel, rfl, by decide +kernel, by decide +kernel⟩
abbrev n_need_place : List Str := [(Str.ofString "sheet"), (Str.ofString "value")]
theorem sc_need_place : FnScope n_need_place (ps .need_place) (defScope s_need_place) := ⟨rfl, rfl, rfl, by decide +kernel, rfl, by decide +kernel, by decide +kernel⟩
abbrev n_is_term : List Str := [(Str.ofString "value")]
theorem sc_is_term : FnScope n_is_term (ps .is_term) (defScope s_is_term) := ⟨rfl, rfl, rfl, by decide +kernel, rfl, by decide +kernel, by decide +kernel⟩
abbrev n_is_sheet : List Str := [(Str.ofString "value")]
theorem sc_is_sheet : FnScope n_is_sheet (ps .is_sheet) (defScope s_is_sheet) := ⟨rfl, rfl, rfl, by decide +kernel, rfl, by decide +kernel, by decide +kernel⟩
abbrev n_places : List Str := [(Str.ofString "sheet"), (Str.ofString "name"), (Str.ofString "term"), (Str.ofString "path")]
theorem sc_places : FnScope n_places (ps .places) (defScope s_places) := ⟨rfl, rfl, rfl, by decide +kernel, rfl, by decide +kernel, by decide +kernel⟩
abbrev n_part : List Str := [(Str.ofString "sheet"), (Str.ofString "place")]
theorem sc_part : FnScope n_part (ps .part) (defScope s_part) := ⟨rfl, rfl, rfl, by decide +kernel, rfl, by decide +kernel, by decide +kernel⟩
abbrev n_rooted : List Str := [(Str.ofString "sheet"), (Str.ofString "name")]
theorem sc_rooted : FnScope n_rooted (ps .rooted) (defScope s_rooted) := ⟨rfl, rfl, rfl, by decide +kernel, rfl, by decide +kernel, by decide +kernel⟩
abbrev n_trimmed : List Str := [(Str.ofString "sheet"), (Str.ofString "terms"), (Str.ofString "waiting"), (Str.ofString "kept"), (Str.ofString "name")]
theorem sc_trimmed : FnScope n_trimmed (ps .trimmed) (defScope s_trimmed) := ⟨rfl, rfl, rfl, by decide +kernel, rfl, by decide +kernel, by decide +kernel⟩
abbrev n_lifted : List Str := [(Str.ofString "sheet"), (Str.ofString "place"), (Str.ofString "name"), (Str.ofString "term"), (Str.ofString "terms")]
theorem sc_lifted : FnScope n_lifted (ps .lifted) (defScope s_lifted) := ⟨rfl, rfl, rfl, by decide +kernel, rfl, by decide +kernel, by decide +kernel⟩
abbrev n_inlined : List Str := [(Str.ofString "sheet"), (Str.ofString "place"), (Str.ofString "ref")]
theorem sc_inlined : FnScope n_inlined (ps .inlined) (defScope s_inlined) := ⟨rfl, rfl, rfl, by decide +kernel, rfl, by decide +kernel, by decide +kernel⟩
abbrev n_changed : List Str := [(Str.ofString "sheet"), (Str.ofString "place"), (Str.ofString "term")]
theorem sc_changed : FnScope n_changed (ps .changed) (defScope s_changed) := ⟨rfl, rfl, rfl, by decide +kernel, rfl, by decide +kernel, by decide +kernel⟩
abbrev n_grafted : List Str := [(Str.ofString "sheet"), (Str.ofString "place"), (Str.ofString "other_sheet"), (Str.ofString "terms"), (Str.ofString "name"), (Str.ofString "term")]
theorem sc_grafted : FnScope n_grafted (ps .grafted) (defScope s_grafted) := ⟨rfl, rfl, rfl, by decide +kernel, rfl, by decide +kernel, by decide +kernel⟩
abbrev n_renamed : List Str := [(Str.ofString "sheet"), (Str.ofString "pairs"), (Str.ofString "named"), (Str.ofString "refs"), (Str.ofString "name"), (Str.ofString "term")]
theorem sc_renamed : FnScope n_renamed (ps .renamed) (defScope s_renamed) := ⟨rfl, rfl, rfl, by decide +kernel, rfl, by decide +kernel, by decide +kernel⟩
abbrev n_unrolled : List Str := [(Str.ofString "sheet"), (Str.ofString "depth"), (Str.ofString "names"), (Str.ofString "many"), (Str.ofString "entries"), (Str.ofString "refs"), (Str.ofString "level"), (Str.ofString "first"), (Str.ofString "name"), (Str.ofString "_"), (Str.ofString "k")]
theorem sc_unrolled : FnScope n_unrolled (ps .unrolled) (defScope s_unrolled) := ⟨rfl, rfl, rfl, by decide +kernel, rfl, by decide +kernel, by decide +kernel⟩
abbrev n_law_bag : List Str := [(Str.ofString "_law_cell"), (Str.ofString "_law_many"), (Str.ofString "_law_left"), (Str.ofString "_law_stir"), (Str.ofString "_law_bag_here"), (Str.ofString "_law_k")]
theorem sc_law_bag : FnScope n_law_bag (ps .law_bag) (defScope s_law_bag) := ⟨rfl, rfl, rfl, by decide +kernel, rfl, by decide +kernel, by decide +kernel⟩
abbrev n_law_take : List Str := [(Str.ofString "_law_bag_here"), (Str.ofString "_law_many")]
theorem sc_law_take : FnScope n_law_take (ps .law_take) (defScope s_law_take) := ⟨rfl, rfl, rfl, by decide +kernel, rfl, by decide +kernel, by decide +kernel⟩
abbrev n_law_bits : List Str := [(Str.ofString "_law_bag_here"), (Str.ofString "_law_many"), (Str.ofString "_law_k")]
theorem sc_law_bits : FnScope n_law_bits (ps .law_bits) (defScope s_law_bits) := ⟨rfl, rfl, rfl, by decide +kernel, rfl, by decide +kernel, by decide +kernel⟩
abbrev n_law_atom : List Str := [(Str.ofString "_law_bag_here"), (Str.ofString "_law_k")]
theorem sc_law_atom : FnScope n_law_atom (ps .law_atom) (defScope s_law_atom) := ⟨rfl, rfl, rfl, by decide +kernel, rfl, by decide +kernel, by decide +kernel⟩
abbrev n_law_label : List Str := [(Str.ofString "_law_bag_here"), (Str.ofString "_law_k")]
theorem sc_law_label : FnScope n_law_label (ps .law_label) (defScope s_law_label) := ⟨rfl, rfl, rfl, by decide +kernel, rfl, by decide +kernel, by decide +kernel⟩
abbrev n_law_machine : List Str := [(Str.ofString "_law_bag_here"), (Str.ofString "_law_many"), (Str.ofString "_law_size"), (Str.ofString "_law_k")]
theorem sc_law_machine : FnScope n_law_machine (ps .law_machine) (defScope s_law_machine) := ⟨rfl, rfl, rfl, by decide +kernel, rfl, by decide +kernel, by decide +kernel⟩
abbrev n_law_names : List Str := [(Str.ofString "_law_bag_here"), (Str.ofString "_law_many"), (Str.ofString "_law_signs"), (Str.ofString "_law_ahead"), (Str.ofString "_law_tail"), (Str.ofString "_law_k")]
theorem sc_law_names : FnScope n_law_names (ps .law_names) (defScope s_law_names) := ⟨rfl, rfl, rfl, by decide +kernel, rfl, by decide +kernel, by decide +kernel⟩
abbrev n_law_known : List Str := [(Str.ofString "_law_sheet"), (Str.ofString "_law_known_here"), (Str.ofString "_law_entry")]
theorem sc_law_known : FnScope n_law_known (ps .law_known) (defScope s_law_known) := ⟨rfl, rfl, rfl, by decide +kernel, rfl, by decide +kernel, by decide +kernel⟩
abbrev n_law_same : List Str := [(Str.ofString "_law_heard"), (Str.ofString "_law_due"), (Str.ofString "_law_k")]
theorem sc_law_same : FnScope n_law_same (ps .law_same) (defScope s_law_same) := ⟨rfl, rfl, rfl, by decide +kernel, rfl, by decide +kernel, by decide +kernel⟩
abbrev n_law_parts : List Str := [(Str.ofString "_law_term"), (Str.ofString "_law_kind"), (Str.ofString "_law_way")]
theorem sc_law_parts : FnScope n_law_parts (ps .law_parts) (defScope s_law_parts) := ⟨rfl, rfl, rfl, by decide +kernel, rfl, by decide +kernel, by decide +kernel⟩
abbrev n_law_paths : List Str := [(Str.ofString "_law_term"), (Str.ofString "_law_path"), (Str.ofString "_law_found"), (Str.ofString "_law_parts_here"), (Str.ofString "_law_k")]
theorem sc_law_paths : FnScope n_law_paths (ps .law_paths) (defScope s_law_paths) := ⟨rfl, rfl, rfl, by decide +kernel, rfl, by decide +kernel, by decide +kernel⟩
abbrev n_law_at : List Str := [(Str.ofString "_law_term"), (Str.ofString "_law_path"), (Str.ofString "_law_k")]
theorem sc_law_at : FnScope n_law_at (ps .law_at) (defScope s_law_at) := ⟨rfl, rfl, rfl, by decide +kernel, rfl, by decide +kernel, by decide +kernel⟩
abbrev n_law_put : List Str := [(Str.ofString "_law_term"), (Str.ofString "_law_path"), (Str.ofString "_law_new"), (Str.ofString "_law_parts_here"), (Str.ofString "_law_inner"), (Str.ofString "_law_way")]
theorem sc_law_put : FnScope n_law_put (ps .law_put) (defScope s_law_put) := ⟨rfl, rfl, rfl, by decide +kernel, rfl, by decide +kernel, by decide +kernel⟩
abbrev n_law_places : List Str := [(Str.ofString "_law_sheet"), (Str.ofString "_law_found"), (Str.ofString "_law_entry"), (Str.ofString "_law_path")]
theorem sc_law_places : FnScope n_law_places (ps .law_places) (defScope s_law_places) := ⟨rfl, rfl, rfl, by decide +kernel, rfl, by decide +kernel, by decide +kernel⟩
abbrev n_law_laid : List Str := [(Str.ofString "_law_sheet"), (Str.ofString "_law_place"), (Str.ofString "_law_new"), (Str.ofString "_law_entries"), (Str.ofString "_law_entry")]
theorem sc_law_laid : FnScope n_law_laid (ps .law_laid) (defScope s_law_laid) := ⟨rfl, rfl, rfl, by decide +kernel, rfl, by decide +kernel, by decide +kernel⟩
abbrev n_law_loose : List Str := [(Str.ofString "_law_bag_here"), (Str.ofString "_law_names_here"), (Str.ofString "_law_deep_here"), (Str.ofString "_law_way"), (Str.ofString "_law_many"), (Str.ofString "_law_tags"), (Str.ofString "_law_inner"), (Str.ofString "_law_k")]
theorem sc_law_loose : FnScope n_law_loose (ps .law_loose) (defScope s_law_loose) := ⟨rfl, rfl, rfl, by decide +kernel, rfl, by decide +kernel, by decide +kernel⟩
abbrev n_law_loose_sheet : List Str := [(Str.ofString "_law_bag_here"), (Str.ofString "_law_names_here"), (Str.ofString "_law_entries"), (Str.ofString "_law_k")]
theorem sc_law_loose_sheet : FnScope n_law_loose_sheet (ps .law_loose_sheet) (defScope s_law_loose_sheet) := ⟨rfl, rfl, rfl, by decide +kernel, rfl, by decide +kernel, by decide +kernel⟩
abbrev n_law_deep : List Str := [(Str.ofString "_law_many"), (Str.ofString "_law_turn"), (Str.ofString "_law_term"), (Str.ofString "_law_k"), (Str.ofString "_law_some")]
theorem sc_law_deep : FnScope n_law_deep (ps .law_deep) (defScope s_law_deep) := ⟨rfl, rfl, rfl, by decide +kernel, rfl, by decide +kernel, by decide +kernel⟩
abbrev n_law_right : List Str := [(Str.ofString "_law_bag_here"), (Str.ofString "_law_bits_here"), (Str.ofString "_law_rights")]
theorem sc_law_right : FnScope n_law_right (ps .law_right) (defScope s_law_right) := ⟨rfl, rfl, rfl, by decide +kernel, rfl, by decide +kernel, by decide +kernel⟩
abbrev n_law_wrong : List Str := [(Str.ofString "_law_bag_here"), (Str.ofString "_law_bits_here"), (Str.ofString "_law_wrongs")]
theorem sc_law_wrong : FnScope n_law_wrong (ps .law_wrong) (defScope s_law_wrong) := ⟨rfl, rfl, rfl, by decide +kernel, rfl, by decide +kernel, by decide +kernel⟩
abbrev n_law_around : List Str := [(Str.ofString "_law_bag_here"), (Str.ofString "_law_sheet"), (Str.ofString "_law_root"), (Str.ofString "_law_entries"), (Str.ofString "_law_first"), (Str.ofString "_law_wrongs"), (Str.ofString "_law_bits_here")]
theorem sc_law_around : FnScope n_law_around (ps .law_around) (defScope s_law_around) := ⟨rfl, rfl, rfl, by decide +kernel, rfl, by decide +kernel, by decide +kernel⟩
abbrev n_law_bent : List Str := [(Str.ofString "_law_bag_here"), (Str.ofString "_law_sheet"), (Str.ofString "_law_spots_here"), (Str.ofString "_law_spot"), (Str.ofString "_law_last"), (Str.ofString "_law_bents"), (Str.ofString "_law_truths"), (Str.ofString "_law_k")]
theorem sc_law_bent : FnScope n_law_bent (ps .law_bent) (defScope s_law_bent) := ⟨rfl, rfl, rfl, by decide +kernel, rfl, by decide +kernel, by decide +kernel⟩
abbrev n_law_asked : List Str := [(Str.ofString "_law_way"), (Str.ofString "_law_sheet"), (Str.ofString "_law_other"), (Str.ofString "_law_third"), (Str.ofString "_law_told"), (Str.ofString "error")]
theorem sc_law_asked : FnScope n_law_asked (ps .law_asked) (defScope s_law_asked) := ⟨rfl, rfl, rfl, by decide +kernel, rfl, by decide +kernel, by decide +kernel⟩
abbrev n_law_spots : List Str := [(Str.ofString "_law_bag_here"), (Str.ofString "_law_sheet"), (Str.ofString "_law_spots_here"), (Str.ofString "_law_found"), (Str.ofString "_law_spot"), (Str.ofString "_law_way"), (Str.ofString "_law_third")]
theorem sc_law_spots : FnScope n_law_spots (ps .law_spots) (defScope s_law_spots) := ⟨rfl, rfl, rfl, by decide +kernel, rfl, by decide +kernel, by decide +kernel⟩
abbrev n_law : List Str := [(Str.ofString "_law_script"), (Str.ofString "_law_wide"), (Str.ofString "_law_cell"), (Str.ofString "_law_bag_here"), (Str.ofString "_law_sheet"), (Str.ofString "_law_spots_here"), (Str.ofString "_law_spot"), (Str.ofString "_law_wrong_here"), (Str.ofString "_law_right_here"), (Str.ofString "_law_strange")]
theorem sc_law : FnScope n_law (ps .law) (defScope s_law) := ⟨rfl, rfl, rfl, by decide +kernel, rfl, by decide +kernel, by decide +kernel⟩
end KK
end
section
set_option Elab.async false
set_option linter.all false
set_option maxRecDepth 100000
set_option maxHeartbeats 4000000
namespace KK
open PySem PySem.Spec PyProof.Rows L2 DL
section
variable {X : Cx} {o e : Expr} {apos cpos : Pos} {te : TE} {d : Addr} {es : Array DictEntry} {n : Nat}
theorem pe_kget (KD : KDict X.K X.w d es n) (ho : PE X o (tC (.ref d))) (he : PE X e te) (m : M1 X o "get" apos e cpos) :
    PE X (.Call (.Attribute o "get" apos) [e] [] cpos) (fun σ H Q => te σ H fun y H1 => ∃ z r v, y = .str z ∧ PySem.W.nsIn X.K d z = some r ∧ RelV v (r.getD .none) ∧ Q v H1) := by
  refine ⟨fun pins s σ H Q I h => ?_⟩
  refine wpAny_Call_method m.base m.few m.line PySem.F.plainAttrs_dict PySem.F.slot_dict_get PySem.F.type_dict_get (thn (ho.run pins s σ H (fun v H1 => v = .ref d ∧ H1 = H) I ⟨rfl, rfl⟩) fun u s1 ⟨x, H1, I1, rx, ex, e1⟩ => ?_)
  subst ex e1
  obtain rfl : u = .ref d := rx
  have mo := PySem.W.mapOf_K (prog := X.prog) (w := X.w) I1.kIn KD.at_ KD.lit
  refine ⟨mo.typeIs, mo.noDict, ?_⟩
  rw [m.trees]
  refine wpAny_dict_get1 (knd := strKind X.prog X.w) KD.low (thn (he.run pins s1 σ _ _ I1 h) fun iv s2 ⟨y, H2, I2, ry, z, r, v, ez, er, rv, q⟩ => ?_)
  subst ez
  obtain ⟨t, rfl⟩ := ry
  refine ⟨z, _, PySem.strKind_is X.prog X.w z t, PySem.W.mapOf_K (prog := X.prog) I2.kIn KD.at_ KD.lit, ?_⟩
  rw [PySem.W.find_K KD.at_ er]
  exact ⟨v, H2, I2.tok _, rv, q⟩
end
def formId (z : Str) : Option Fid :=
  if z = Str.ofString "bits" then some .is_bits_term else if z = Str.ofString "table" then some .is_table_term else if z = Str.ofString "width" then some .is_width_term
  else if z = Str.ofString "row" then some .is_row_term else if z = Str.ofString "either" then some .is_either_term else if z = Str.ofString "times" then some .is_times_term
  else if z = Str.ofString "counted" then some .is_two_part_term else if z = Str.ofString "until" then some .is_until_term else if z = Str.ofString "sized" then some .is_two_part_term
  else if z = Str.ofString "checked" then some .is_checked_term else if z = Str.ofString "ref" then some .is_ref_term else none
structure Forms (K : PySem.W.Frag) (w : World) (mg : Str → Option Value) (ad : Fid → Addr) : Prop where
  ex : ∃ d es n, mg "FORMS" = some (.ref d) ∧ KDict K w d es n ∧ ∀ z, PySem.W.nsIn K d z = some ((formId z).map fun i => .ref (ad i))
section
variable {P : Program} {w : World} {K : PySem.W.Frag} {mg : Str → Option Value} {base : Heap} {ad : Fid → Addr} {fd : Fid → FuncData} {n : Nat} {c : Fid → FD}
/-- the two rows behind the test: the def of this word, called with both arguments -/
def formTail (c : Fid → FD) : FS := fun ε m => if ε.length = 3 then ((ε[0]?.bind id).bind fun v => (ε[1]?.bind id).bind fun k => (ixG v (.int 0) m).bind fun z => match z with
  | .str z => (match formId z with
    | some i => (c i [v, k] m).map fun p => Out.rt p.1 p.2
    | none => some (.rt (.bl false) m))
  | _ => none) else none
theorem d_callFn {X : Cx} {x : Str} {p pos : Pos} {i : Nat} {e : Expr} {es : List Expr} {t : TA} (hK : X.K = K) (hP : X.prog = P) (hw : X.w = w) (hmg : X.mg = mg) (hb : X.base = base) (T : Txt K mg ad fd) (G : Gs P w K mg base ad fd n c) (hr : Room n X.A) (hN : X.N[i]? = some x) (hv : Vis X.env.scope x) (ha : PA X (e :: es) t)
    (hdb : (x == ("__debug__" : Str)) = false := by decide) (hcd : (x == ("__classdict__" : Str)) = false := by decide)
    (he : starEach (e :: es) X.env = (false, eval e X.env) :: starEach es X.env := by rfl) (hpl : (backTo pos (starEach es X.env)).any (·.1) = false := by rfl) :
    PE X (.Call (.Name x p) (e :: es) [] pos) (fun σ H Q => ∃ j, σ[i]? = some (some (.ref (ad j))) ∧ t σ H fun vs H1 => spD (c j) (vs ++ []) H1 Q E0) := by
  subst hK hP hw hmg hb
  exact ⟨fun pins s σ H Q I ⟨j, hs, ht⟩ => (pe_callL (i := i) (f := ad j) (sp := spD (c j)) (dvs := []) (E := E0) (G j) hr hN hv (T.kp j) (T.bd j) .nil pass0 ha hdb hcd he hpl).run pins s σ H Q I ⟨hs, ht⟩⟩
theorem ok_is_term_within (T : Txt K mg ad fd) (FM : Forms K w mg ad) (G : Gs P w K mg base ad fd n c) (b0 : FS) (h0 : ∀ (cdv : Value) (A : Around) (outer : List Env) (s : Shared) (H : Hp) (E : XK), Room n (A.deeper (envOfC (nm .is_term_within) (defScope s_is_term_within) s.heap.objs.size (ad .is_term_within) cdv)) →
      PS (cxOf CX0 P w K mg base n_is_term_within (nm .is_term_within) (defScope s_is_term_within) (ad .is_term_within) cdv A outer s H E).nox ((defBody s_is_term_within).getD 0 (.Pass ⟨0, 0, 0, 0⟩)) (tDS b0)) :
    FnOk P w K mg base CX0 (n + 1) (ad .is_term_within) (fd .is_term_within) (ps .is_term_within) (spD (fnD 2 3 (sSeq b0 (formTail c)))) := by
  have nd := sc_is_term_within.nd
  obtain ⟨d, es, k, hd, KD, hz⟩ := FM.ex
  refine d_fn (T.fn .is_term_within) sc_is_term_within (fun cdv A outer s H E hr => ds_cons (h0 cdv A outer s H E hr) ?_)
  refine PSs.weak (pss_cons (ps_set (i := 2) nd rfl (Or.inl rfl) (pe_kget KD (pe_glob rfl hd rfl) (pe_ix ix_seq (pv 0) pe_int (fun _ _ => rfl)) ⟨rfl, rfl, rfl, rfl⟩))
    (pss_one (ps_ret (pe_and (pe_cmp (pc_notN (pv 2))) (pe_one (d_callFn (i := 2) rfl rfl rfl rfl rfl T G hr rfl (Or.inl rfl) (pa_cons (pv 0) (pa_cons (pv 1) pa_nil)))))))) fun D σ H ⟨μ, ε, m, o, re, ok, e, q⟩ => ?_
  unfold formTail at e
  split at e
  case isFalse => cases e
  rename_i hlen
  cases e0 : ε[0]?.bind id with
  | none => rw [e0] at e; cases e
  | some v =>
    cases e1 : ε[1]?.bind id with
    | none => rw [e0, e1] at e; cases e
    | some dk =>
      rw [e0, e1] at e
      simp only [Option.bind_some] at e
      cases e2 : ixG v (.int 0) m with
      | none => rw [e2] at e; cases e
      | some zd =>
        rw [e2] at e
        simp only [Option.bind_some] at e
        have f0 : ε[0]? = some (some v) := by
          cases z : ε[0]? with
          | none => rw [z] at e0; cases e0
          | some y => rw [z] at e0; simp at e0; rw [e0]
        have f1 : ε[1]? = some (some dk) := by
          cases z : ε[1]? with
          | none => rw [z] at e1; cases e1
          | some y => rw [z] at e1; simp at e1; rw [e1]
        obtain ⟨x0, s0, r0⟩ := re.at_ 0 v f0
        obtain ⟨x1, s1, r1⟩ := re.at_ 1 dk f1
        refine ⟨x0, s0, fits_ix μ H m x0 (.int 0) v (.int 0) zd _ ok r0 (.int 0) e2 fun y H1 p1 ok1 ry => ?_⟩
        cases ry with
        | str z =>
          have s02 : ∀ u, (σ.set 2 (some u))[0]? = some (some x0) := fun u => by rw [List.getElem?_set_ne (by decide)]; exact s0
          have s12 : ∀ u, (σ.set 2 (some u))[1]? = some (some x1) := fun u => by rw [List.getElem?_set_ne (by decide)]; exact s1
          have s22 : ∀ u, (σ.set 2 (some u))[2]? = some (some u) := fun u => List.getElem?_set_self (by
            have := re.len
            omega)
          cases ei : formId z with
          | none =>
            simp only [ei] at e
            cases e
            refine ⟨z, none, .non, rfl, (hz z).trans (by rw [ei]; rfl), rfl, .non, s22 _, false, by simp, ?_⟩
            rw [if_neg Bool.false_ne_true]
            exact q μ _ H1 p1 ok1 (.bl false)
          | some i =>
            simp only [ei] at e
            cases e3 : c i [v, dk] m with
            | none => rw [e3] at e; cases e
            | some pr =>
              rw [e3] at e
              cases e
              refine ⟨z, some (.ref (ad i)), .ref (ad i), rfl, (hz z).trans (by rw [ei]; rfl), rfl, .ref (ad i), s22 _, true, by simp, ?_⟩
              rw [if_pos rfl]
              refine ⟨i, s22 _, x0, s02 _, x1, s12 _, μ, [v, dk], m, pr.1, pr.2, .cons (r0.grow p1) (.cons (r1.grow p1) .nil), ok1, e3, fun w H2 p2 ok2 r2 => q μ w H2 (p1.trans p2) ok2 r2⟩
        | _ => cases e
end
end KK
end
section
set_option Elab.async false
set_option linter.all false
set_option maxRecDepth 100000
namespace DL
open PySem PySem.Spec PyProof.Rows L2
/-! ### what is raised -/
inductive OX where
  | o (o : Out) | ex (c : Addr) (ε : Ev) (m : M)
abbrev FSX := Ev → M → Option OX
def FinX (W : WX) (D : Ends) (μ : Mu) (H : Hp) : OX → Prop
  | .o o => Fin D μ H o
  | .ex c ε m => ∀ μ' σ' H', Post μ H μ' H' → REnv μ' H' σ' ε → MOk μ' H' m → W (.ref c) none σ' H'
theorem FinX.grow {W : WX} {D : Ends} {μ μ' : Mu} {H H' : Hp} {o : OX} (f : FinX W D μ H o) (p : Post μ H μ' H') : FinX W D μ' H' o := by
  cases o with
  | o o => exact Fin.grow f p
  | ex c ε m => exact fun μ2 σ2 H2 q => f μ2 σ2 H2 (p.trans q)
def tDX (W : WX) (f : FSX) : TS := fun D σ H => ∃ μ ε m o, REnv μ H σ ε ∧ MOk μ H m ∧ f ε m = some o ∧ FinX W D μ H o
inductive RX where
  | ok (d : D) (m : M) | ex (c : Addr) (m : M)
abbrev FX := List D → M → Option RX
def spX (g : FX) : Sp := fun vs H Q E => ∃ μ ds m r, Reps μ H vs ds ∧ MOk μ H m ∧ g ds m = some r ∧ (match r with
  | .ok d m' => ∀ v H', Post μ H μ H' → MOk μ H' m' → Rep μ H' v d → Q v H'
  | .ex c m' => ∀ H', Post μ H μ H' → MOk μ H' m' → E (.ref c) none H')
def xSeq (f g : FSX) : FSX := fun ε m => (f ε m).bind fun o => match o with
  | .o (.nx ε' m') => g ε' m'
  | o => some o
def xOf (f : FS) : FSX := fun ε m => (f ε m).map .o
def xNo : FSX := fun _ _ => none
def xIf (t : FT) (f g : FSX) : FSX := fun ε m => (t ε m).bind fun p => if p.1 = true then f ε p.2 else g ε p.2
def xRaise (c : Addr) : FSX := fun ε m => some (.ex c ε m)
def xCall (g : FX) (fs : FA) : FSX := fun ε m => (fs ε m).bind fun p => (g p.1 p.2).map fun r => match r with
  | .ok d m' => .o (.nx ε m')
  | .ex c m' => .ex c ε m'
section
variable {X : Cx} {W : WX} {f g : FSX} {st : Stmt} {rest : List Stmt} {pos : Pos} {a : Expr}
theorem dx_of {fs : FS} (h : PS X st (tDS fs)) : PS X st (tDX W (xOf fs)) := PS.weak h fun D σ H ⟨μ, ε, m, o, re, ok, e, q⟩ => by
  unfold xOf at e
  cases e1 : fs ε m with
  | none => rw [e1] at e; cases e
  | some o1 => rw [e1] at e; cases e; exact ⟨μ, ε, m, o1, re, ok, e1, q⟩
theorem dxs_of {fs : FS} (h : PSs X rest (tDS fs)) : PSs X rest (tDX W (xOf fs)) := PSs.weak h fun D σ H ⟨μ, ε, m, o, re, ok, e, q⟩ => by
  unfold xOf at e
  cases e1 : fs ε m with
  | none => rw [e1] at e; cases e
  | some o1 => rw [e1] at e; cases e; exact ⟨μ, ε, m, o1, re, ok, e1, q⟩
theorem dx_no : PSs X rest (tDX W xNo) := PSs.weak pss_never fun D σ H ⟨μ, ε, m, o, re, ok, e, q⟩ => by cases e
theorem dx_one (h : PS X st (tDX W f)) : PSs X [st] (tDX W f) := pss_one h
theorem dx_cons (h1 : PS X st (tDX W f)) (h2 : PSs X rest (tDX W g)) : PSs X (st :: rest) (tDX W (xSeq f g)) := by
  refine PSs.weak (pss_cons h1 h2) fun D σ H ⟨μ, ε, m, o, re, ok, e, q⟩ => ?_
  unfold xSeq at e
  cases e1 : f ε m with
  | none => rw [e1] at e; cases e
  | some o1 =>
    rw [e1] at e
    simp only [Option.bind_some] at e
    refine ⟨μ, ε, m, o1, re, ok, e1, ?_⟩
    cases o1 with
    | ex c ε' m' => cases e; exact q
    | o o1 =>
      cases o1 with
      | nx ε' m' => exact fun μ1 σ1 H1 p1 re1 ok1 => ⟨μ1, ε', m', o, re1, ok1, e, q.grow p1⟩
      | rt d m' => cases e; exact q
      | bk ε' m' => cases e; exact q
      | ct ε' m' => cases e; exact q
      | rn ds m' => cases e; exact q
theorem dx_if {t : FT} {b1 b2 : List Stmt} {c : Expr} (hc : PT X c (tDT t)) (ha : PSs X b1 (tDX W f)) (hb : PSs X b2 (tDX W g)) : PS X (.If c b1 b2 pos) (tDX W (xIf t f g)) := by
  refine PS.weak (ps_if hc ha hb) fun D σ H ⟨μ, ε, m, o, re, ok, e, q⟩ => ?_
  unfold xIf at e
  cases e1 : t ε m with
  | none => rw [e1] at e; cases e
  | some p =>
    obtain ⟨k, m1⟩ := p
    rw [e1] at e
    simp only [Option.bind_some] at e
    refine tDT.step re ok e1 fun H1 p1 ok1 re1 => ?_
    cases k with
    | true => rw [if_pos rfl] at e ⊢; exact ⟨μ, ε, m1, o, re1, ok1, e, q.grow p1⟩
    | false => rw [if_neg Bool.false_ne_true] at e ⊢; exact ⟨μ, ε, m1, o, re1, ok1, e, q.grow p1⟩
/-- what a class of one's own over ValueError must say -/
structure Exc1 (K : PySem.W.Frag) (mg : Str → Option Value) (x : Str) (C : Addr) : Prop where
  g : mg x = some (.ref C)
  x : PySem.W.excIn K C [.type "ValueError", .type "Exception", .type "BaseException", .type "object"] "ValueError.__new__" = true
  k : PySem.W.keepIn K (.ref C) = true
  b : PySem.W.subIn K (.ref C) (.type "BaseException") = some true
  t : PySem.W.typeIn K (.ref C) = some (.type "type")
theorem dx_raise {x m : Str} {C : Addr} {j : Nat} {p p2 pc : Pos} (hc : X.calm = true) (tk : Takes X W) (F : Exc1 X.K X.mg x C) (hg : Gl X x) (hdb : (x == ("__debug__" : Str)) = false := by decide) :
    PS X (.Raise (some (.Call (.Name x p) [.Constant (.str m) j p2] [] pc)) none pos) (tDX W (xRaise C)) :=
  PS.weak (ps_raise hc tk (pmk_own PySem.F.excBase_ValueError F.x F.g F.k (raises_own F.b F.t) hg hdb)) fun D σ H ⟨μ, ε, m, o, re, ok, e, q⟩ => by
    unfold xRaise at e
    cases e
    exact q μ σ H (Post.refl _ _) re ok
theorem dx_call {k : Nat} {fa : Addr} {fd : FuncData} {ps : List Str} {x : Str} {p pc : Pos} {gX : FX} {es : List Expr} {fs : FA} (tk : Takes X W) (G : FnOk X.prog X.w X.K X.mg X.base (L2.CX X.prog X.w) k fa fd ps (spX gX)) (hr : Room k X.A) (hg : Gl X x) (hm : X.mg x = some (.ref fa)) (hk : PySem.W.keepIn X.K (.ref fa) = true)
    (hb : Binds X.K fd ps []) (ha : PA X (a :: es) (tDA fs)) (hdb : (x == ("__debug__" : Str)) = false := by decide) (he : starEach (a :: es) X.env = (false, eval a X.env) :: starEach es X.env := by rfl) (hpl : (backTo pc (starEach es X.env)).any (·.1) = false := by rfl)
    (hs : swapsWith (.Call (.Name x p) (a :: es) [] pc) none pos.line X.env = pure false := by rfl) : PS X (.Expr (.Call (.Name x p) (a :: es) [] pc) pos) (tDX W (xCall gX fs)) := by
  refine PS.weak (ps_expr (pe_callS (E := WE W) G hr hg hm hk hb (fun σ => passAt tk σ) ha hdb he hpl) hs) fun D σ H ⟨μ, ε, m, o, re, ok, e, q⟩ => ?_
  unfold xCall at e
  cases e1 : fs ε m with
  | none => rw [e1] at e; cases e
  | some pr =>
    obtain ⟨ds, m1⟩ := pr
    rw [e1] at e
    simp only [Option.bind_some] at e
    cases e2 : gX ds m1 with
    | none => rw [e2] at e; cases e
    | some r =>
      rw [e2] at e
      refine tDA.step re ok e1 fun vs H1 p1 ok1 re1 r1 => ⟨μ, ds, m1, r, r1, ok1, e2, ?_⟩
      cases r with
      | ok d m' => cases e; exact fun v H2 p2 ok2 r2 => q μ σ H2 (p1.trans p2) (re1.grow p2) ok2
      | ex c m' => cases e; exact fun H2 p2 ok2 => q μ σ H2 (p1.trans p2) (re1.grow p2) ok2
end
/-! ### a def that may raise -/
def fnX (np n : Nat) (body : FSX) : FX := fun ds m => if ds.length = np then (body (ds.map some ++ List.replicate (n - np) none) m).bind fun o => match o with
  | .o (.rt d m') => if m'.length = m.length then some (.ok d m') else none
  | .o (.nx _ m') => if m'.length = m.length then some (.ok .non m') else none
  | .o (.rn es m') => if m'.length = m.length then some (.ok (.lst es) m') else none
  | .ex c _ m' => if m'.length = m.length then some (.ex c m') else none
  | _ => none else none
theorem post_len {μ μ' : Mu} {H H' : Hp} {m m' : M} (ok : MOk μ H m) (p : Post μ H μ' H') (ok' : MOk μ' H' m') (h : m'.length = m.length) : μ' = μ := by
  obtain ⟨ν, rfl, _⟩ := p.pre
  have h1 := ok.len
  have h2 := ok'.len
  have h2 : m'.length = (μ.l ++ ν).length := h2
  rw [List.length_append] at h2
  have : ν = [] := List.eq_nil_of_length_eq_zero (by omega)
  subst this
  simp
section
variable {P : Program} {w : World} {K : PySem.W.Frag} {mg : Str → Option Value} {base : Heap}
theorem d_fnX {x qual : Str} {st : Stmt} {f : Addr} {fd : FuncData} {N ps : List Str} {k : Nat} {body : FSX} (Fn : Fun K x qual st f fd) (S : FnScope N ps (defScope st))
    (hbody : ∀ (cdv : Value) (A : Around) (outer : List Env) (s : Shared) (H : Hp) (E : XK), Room k (A.deeper (envOfC qual (defScope st) s.heap.objs.size f cdv)) →
      PSs (cxOf (L2.CX P w) P w K mg base N qual (defScope st) f cdv A outer s H E) (defBody st) (tDX (fun cls d _ H => E cls d H) body)) : FnOk P w K mg base (L2.CX P w) (k + 1) f fd ps (spX (fnX ps.length N.length body)) := by
  refine Fn.okX S (fun vs H Q E h => ?_) (fun cdv A outer s H vs Q E hr h => ⟨_, hbody cdv A outer s H E hr, ?_⟩)
  · obtain ⟨μ, ds, m, r, rs, ok, e, _⟩ := h
    unfold fnX at e
    split at e
    · rename_i hl; rw [rs.length, hl]
    · cases e
  · obtain ⟨μ, ds, m, r, rs, ok, e, q⟩ := h
    unfold fnX at e
    split at e
    · rename_i hl
      cases e1 : body (ds.map some ++ List.replicate (N.length - ps.length) none) m with
      | none => rw [e1] at e; cases e
      | some o =>
        rw [e1] at e
        simp only [Option.bind_some] at e
        refine ⟨μ, _, m, o, start_env rs, ok, by rw [hl]; exact e1, ?_⟩
        cases o with
        | ex c ε1 m1 =>
          have e : (if m1.length = m.length then some (RX.ex c m1) else none) = some r := e
          split at e
          · rename_i hm
            cases e
            intro μ' σ' H' p re' ok'
            have := post_len ok p ok' hm
            subst this
            exact q H' p ok'
          · cases e
        | o o =>
          cases o with
          | rt d1 m1 =>
            have e : (if m1.length = m.length then some (RX.ok d1 m1) else none) = some r := e
            split at e
            · rename_i hm
              cases e
              intro μ' v H' p ok' rv
              have := post_len ok p ok' hm
              subst this
              exact q v H' p ok' rv
            · cases e
          | nx ε1 m1 =>
            have e : (if m1.length = m.length then some (RX.ok .non m1) else none) = some r := e
            split at e
            · rename_i hm
              cases e
              intro μ' σ' H' p re' ok'
              have := post_len ok p ok' hm
              subst this
              exact q .non H' p ok' .non
            · cases e
          | rn es m1 =>
            have e : (if m1.length = m.length then some (RX.ok (.lst es) m1) else none) = some r := e
            split at e
            · rename_i hm
              cases e
              intro μ' a H' ws p ok' hn ha hf rs'
              have := post_len ok p ok' hm
              subst this
              exact q (.ref a) H' p ok' (.lst ha hf rs')
            · cases e
          | bk ε1 m1 => cases e
          | ct ε1 m1 => cases e
    · cases e
end
end DL
end
section
set_option Elab.async false
set_option linter.all false
set_option maxRecDepth 100000
set_option maxHeartbeats 4000000
namespace KK
open PySem PySem.Spec PyProof.Rows L2 DL

inductive Cid where
  | InvalidSheet | InvalidPlace
abbrev cnm : Cid → Str
  | .InvalidSheet => (Str.ofString "InvalidSheet")
  | .InvalidPlace => (Str.ofString "InvalidPlace")
section
variable {P : Program} {w : World} {K : PySem.W.Frag} {mg : Str → Option Value} {base : Heap} {ad : Fid → Addr} {fd : Fid → FuncData} {n : Nat} {c : Fid → FD}
variable {cl : Cid → Addr}
structure GX0 (P : Program) (w : World) (K : PySem.W.Frag) (mg : Str → Option Value) (base : Heap) (ad : Fid → Addr) (fd : Fid → FuncData) (n : Nat) (c : Fid → FD) (cl : Cid → Addr) : Prop where
  t : True
def g_need_sheet (c : Fid → FD) (cl : Cid → Addr) : FX := fnX 1 1 (
  xIf (fNotT (fTru (fCall (c .is_any_sheet) (faCons (fV 0) (faNil))))) (xRaise (cl .InvalidSheet)) (xOf sNx))
theorem okx_need_sheet (T : Txt K mg ad fd) (G : Gs P w K mg base ad fd n c) (CF : ∀ i, Exc1 K mg (cnm i) (cl i)) (GX : GX0 P w K mg base ad fd n c cl) : FnOk P w K mg base (L2.CX P w) (n + 1) (ad .need_sheet) (fd .need_sheet) (ps .need_sheet) (spX (g_need_sheet c cl)) := by
  have nd := sc_need_sheet.nd
  exact d_fnX (T.fn .need_sheet) sc_need_sheet (fun cdv A outer s H E hr =>
    dx_one (dx_if (dt_not (dt_tru (d_call (G .is_any_sheet) hr (by rfl) (T.mgF .is_any_sheet) (T.kp .is_any_sheet) (T.bd .is_any_sheet) (da_cons (d_var 0) (da_nil))))) (dx_one (dx_raise (by rfl) (takes_of rfl rfl rfl rfl) (CF .InvalidSheet) (by rfl))) (dxs_of ds_nil)))
def g_need_place (c : Fid → FD) (cl : Cid → Addr) : FX := fnX 2 2 (
  xIf (fNotT (fTru (fCall (c .is_place_of) (faCons (fV 0) (faCons (fV 1) (faNil)))))) (xRaise (cl .InvalidPlace)) (xOf sNx))
theorem okx_need_place (T : Txt K mg ad fd) (G : Gs P w K mg base ad fd n c) (CF : ∀ i, Exc1 K mg (cnm i) (cl i)) (GX : GX0 P w K mg base ad fd n c cl) : FnOk P w K mg base (L2.CX P w) (n + 1) (ad .need_place) (fd .need_place) (ps .need_place) (spX (g_need_place c cl)) := by
  have nd := sc_need_place.nd
  exact d_fnX (T.fn .need_place) sc_need_place (fun cdv A outer s H E hr =>
    dx_one (dx_if (dt_not (dt_tru (d_call (G .is_place_of) hr (by rfl) (T.mgF .is_place_of) (T.kp .is_place_of) (T.bd .is_place_of) (da_cons (d_var 0) (da_cons (d_var 1) (da_nil)))))) (dx_one (dx_raise (by rfl) (takes_of rfl rfl rfl rfl) (CF .InvalidPlace) (by rfl))) (dxs_of ds_nil)))
structure GX1 (P : Program) (w : World) (K : PySem.W.Frag) (mg : Str → Option Value) (base : Heap) (ad : Fid → Addr) (fd : Fid → FuncData) (n : Nat) (c : Fid → FD) (cl : Cid → Addr) : Prop where
  need_sheet : FnOk P w K mg base (L2.CX P w) n (ad .need_sheet) (fd .need_sheet) (ps .need_sheet) (spX (g_need_sheet c cl))
  need_place : FnOk P w K mg base (L2.CX P w) n (ad .need_place) (fd .need_place) (ps .need_place) (spX (g_need_place c cl))
def g_places (c : Fid → FD) (cl : Cid → Addr) : FX := fnX 1 4 (
  xSeq (xCall (g_need_sheet c cl) (faCons (fV 0) (faNil))) (xNo))
theorem okx_places (T : Txt K mg ad fd) (G : Gs P w K mg base ad fd n c) (CF : ∀ i, Exc1 K mg (cnm i) (cl i)) (GX : GX1 P w K mg base ad fd n c cl) : FnOk P w K mg base (L2.CX P w) (n + 1) (ad .places) (fd .places) (ps .places) (spX (g_places c cl)) := by
  have nd := sc_places.nd
  exact d_fnX (T.fn .places) sc_places (fun cdv A outer s H E hr =>
    dx_cons (dx_call (takes_of rfl rfl rfl rfl) (GX.need_sheet) hr (by rfl) (T.mgF .need_sheet) (T.kp .need_sheet) (T.bd .need_sheet) (da_cons (d_var 0) (da_nil)))
    (dx_no))
def g_part (c : Fid → FD) (cl : Cid → Addr) : FX := fnX 2 2 (
  xSeq (xCall (g_need_sheet c cl) (faCons (fV 0) (faNil))) (xSeq (xCall (g_need_place c cl) (faCons (fV 0) (faCons (fV 1) (faNil)))) (xNo)))
theorem okx_part (T : Txt K mg ad fd) (G : Gs P w K mg base ad fd n c) (CF : ∀ i, Exc1 K mg (cnm i) (cl i)) (GX : GX1 P w K mg base ad fd n c cl) : FnOk P w K mg base (L2.CX P w) (n + 1) (ad .part) (fd .part) (ps .part) (spX (g_part c cl)) := by
  have nd := sc_part.nd
  exact d_fnX (T.fn .part) sc_part (fun cdv A outer s H E hr =>
    dx_cons (dx_call (takes_of rfl rfl rfl rfl) (GX.need_sheet) hr (by rfl) (T.mgF .need_sheet) (T.kp .need_sheet) (T.bd .need_sheet) (da_cons (d_var 0) (da_nil)))
    (dx_cons (dx_call (takes_of rfl rfl rfl rfl) (GX.need_place) hr (by rfl) (T.mgF .need_place) (T.kp .need_place) (T.bd .need_place) (da_cons (d_var 0) (da_cons (d_var 1) (da_nil))))
    (dx_no)))
def g_lifted (c : Fid → FD) (cl : Cid → Addr) : FX := fnX 3 5 (
  xSeq (xCall (g_need_sheet c cl) (faCons (fV 0) (faNil))) (xSeq (xCall (g_need_place c cl) (faCons (fV 0) (faCons (fV 1) (faNil)))) (xNo)))
theorem okx_lifted (T : Txt K mg ad fd) (G : Gs P w K mg base ad fd n c) (CF : ∀ i, Exc1 K mg (cnm i) (cl i)) (GX : GX1 P w K mg base ad fd n c cl) : FnOk P w K mg base (L2.CX P w) (n + 1) (ad .lifted) (fd .lifted) (ps .lifted) (spX (g_lifted c cl)) := by
  have nd := sc_lifted.nd
  exact d_fnX (T.fn .lifted) sc_lifted (fun cdv A outer s H E hr =>
    dx_cons (dx_call (takes_of rfl rfl rfl rfl) (GX.need_sheet) hr (by rfl) (T.mgF .need_sheet) (T.kp .need_sheet) (T.bd .need_sheet) (da_cons (d_var 0) (da_nil)))
    (dx_cons (dx_call (takes_of rfl rfl rfl rfl) (GX.need_place) hr (by rfl) (T.mgF .need_place) (T.kp .need_place) (T.bd .need_place) (da_cons (d_var 0) (da_cons (d_var 1) (da_nil))))
    (dx_no)))
def g_inlined (c : Fid → FD) (cl : Cid → Addr) : FX := fnX 2 3 (
  xSeq (xCall (g_need_sheet c cl) (faCons (fV 0) (faNil))) (xSeq (xCall (g_need_place c cl) (faCons (fV 0) (faCons (fV 1) (faNil)))) (xNo)))
theorem okx_inlined (T : Txt K mg ad fd) (G : Gs P w K mg base ad fd n c) (CF : ∀ i, Exc1 K mg (cnm i) (cl i)) (GX : GX1 P w K mg base ad fd n c cl) : FnOk P w K mg base (L2.CX P w) (n + 1) (ad .inlined) (fd .inlined) (ps .inlined) (spX (g_inlined c cl)) := by
  have nd := sc_inlined.nd
  exact d_fnX (T.fn .inlined) sc_inlined (fun cdv A outer s H E hr =>
    dx_cons (dx_call (takes_of rfl rfl rfl rfl) (GX.need_sheet) hr (by rfl) (T.mgF .need_sheet) (T.kp .need_sheet) (T.bd .need_sheet) (da_cons (d_var 0) (da_nil)))
    (dx_cons (dx_call (takes_of rfl rfl rfl rfl) (GX.need_place) hr (by rfl) (T.mgF .need_place) (T.kp .need_place) (T.bd .need_place) (da_cons (d_var 0) (da_cons (d_var 1) (da_nil))))
    (dx_no)))
def g_changed (c : Fid → FD) (cl : Cid → Addr) : FX := fnX 3 3 (
  xSeq (xCall (g_need_sheet c cl) (faCons (fV 0) (faNil))) (xSeq (xCall (g_need_place c cl) (faCons (fV 0) (faCons (fV 1) (faNil)))) (xNo)))
theorem okx_changed (T : Txt K mg ad fd) (G : Gs P w K mg base ad fd n c) (CF : ∀ i, Exc1 K mg (cnm i) (cl i)) (GX : GX1 P w K mg base ad fd n c cl) : FnOk P w K mg base (L2.CX P w) (n + 1) (ad .changed) (fd .changed) (ps .changed) (spX (g_changed c cl)) := by
  have nd := sc_changed.nd
  exact d_fnX (T.fn .changed) sc_changed (fun cdv A outer s H E hr =>
    dx_cons (dx_call (takes_of rfl rfl rfl rfl) (GX.need_sheet) hr (by rfl) (T.mgF .need_sheet) (T.kp .need_sheet) (T.bd .need_sheet) (da_cons (d_var 0) (da_nil)))
    (dx_cons (dx_call (takes_of rfl rfl rfl rfl) (GX.need_place) hr (by rfl) (T.mgF .need_place) (T.kp .need_place) (T.bd .need_place) (da_cons (d_var 0) (da_cons (d_var 1) (da_nil))))
    (dx_no)))
def g_grafted (c : Fid → FD) (cl : Cid → Addr) : FX := fnX 3 6 (
  xSeq (xCall (g_need_sheet c cl) (faCons (fV 0) (faNil))) (xSeq (xCall (g_need_place c cl) (faCons (fV 0) (faCons (fV 1) (faNil)))) (xSeq (xCall (g_need_sheet c cl) (faCons (fV 2) (faNil))) (xNo))))
theorem okx_grafted (T : Txt K mg ad fd) (G : Gs P w K mg base ad fd n c) (CF : ∀ i, Exc1 K mg (cnm i) (cl i)) (GX : GX1 P w K mg base ad fd n c cl) : FnOk P w K mg base (L2.CX P w) (n + 1) (ad .grafted) (fd .grafted) (ps .grafted) (spX (g_grafted c cl)) := by
  have nd := sc_grafted.nd
  exact d_fnX (T.fn .grafted) sc_grafted (fun cdv A outer s H E hr =>
    dx_cons (dx_call (takes_of rfl rfl rfl rfl) (GX.need_sheet) hr (by rfl) (T.mgF .need_sheet) (T.kp .need_sheet) (T.bd .need_sheet) (da_cons (d_var 0) (da_nil)))
    (dx_cons (dx_call (takes_of rfl rfl rfl rfl) (GX.need_place) hr (by rfl) (T.mgF .need_place) (T.kp .need_place) (T.bd .need_place) (da_cons (d_var 0) (da_cons (d_var 1) (da_nil))))
    (dx_cons (dx_call (takes_of rfl rfl rfl rfl) (GX.need_sheet) hr (by rfl) (T.mgF .need_sheet) (T.kp .need_sheet) (T.bd .need_sheet) (da_cons (d_var 2) (da_nil)))
    (dx_no))))
def g_renamed (c : Fid → FD) (cl : Cid → Addr) : FX := fnX 2 6 (
  xSeq (xCall (g_need_sheet c cl) (faCons (fV 0) (faNil))) (xNo))
theorem okx_renamed (T : Txt K mg ad fd) (G : Gs P w K mg base ad fd n c) (CF : ∀ i, Exc1 K mg (cnm i) (cl i)) (GX : GX1 P w K mg base ad fd n c cl) : FnOk P w K mg base (L2.CX P w) (n + 1) (ad .renamed) (fd .renamed) (ps .renamed) (spX (g_renamed c cl)) := by
  have nd := sc_renamed.nd
  exact d_fnX (T.fn .renamed) sc_renamed (fun cdv A outer s H E hr =>
    dx_cons (dx_call (takes_of rfl rfl rfl rfl) (GX.need_sheet) hr (by rfl) (T.mgF .need_sheet) (T.kp .need_sheet) (T.bd .need_sheet) (da_cons (d_var 0) (da_nil)))
    (dx_no))
def g_rooted (c : Fid → FD) (cl : Cid → Addr) : FX := fnX 2 2 (
  xSeq (xCall (g_need_sheet c cl) (faCons (fV 0) (faNil))) (xNo))
theorem okx_rooted (T : Txt K mg ad fd) (G : Gs P w K mg base ad fd n c) (CF : ∀ i, Exc1 K mg (cnm i) (cl i)) (GX : GX1 P w K mg base ad fd n c cl) : FnOk P w K mg base (L2.CX P w) (n + 1) (ad .rooted) (fd .rooted) (ps .rooted) (spX (g_rooted c cl)) := by
  have nd := sc_rooted.nd
  exact d_fnX (T.fn .rooted) sc_rooted (fun cdv A outer s H E hr =>
    dx_cons (dx_call (takes_of rfl rfl rfl rfl) (GX.need_sheet) hr (by rfl) (T.mgF .need_sheet) (T.kp .need_sheet) (T.bd .need_sheet) (da_cons (d_var 0) (da_nil)))
    (dx_no))
def g_trimmed (c : Fid → FD) (cl : Cid → Addr) : FX := fnX 1 5 (
  xSeq (xCall (g_need_sheet c cl) (faCons (fV 0) (faNil))) (xNo))
theorem okx_trimmed (T : Txt K mg ad fd) (G : Gs P w K mg base ad fd n c) (CF : ∀ i, Exc1 K mg (cnm i) (cl i)) (GX : GX1 P w K mg base ad fd n c cl) : FnOk P w K mg base (L2.CX P w) (n + 1) (ad .trimmed) (fd .trimmed) (ps .trimmed) (spX (g_trimmed c cl)) := by
  have nd := sc_trimmed.nd
  exact d_fnX (T.fn .trimmed) sc_trimmed (fun cdv A outer s H E hr =>
    dx_cons (dx_call (takes_of rfl rfl rfl rfl) (GX.need_sheet) hr (by rfl) (T.mgF .need_sheet) (T.kp .need_sheet) (T.bd .need_sheet) (da_cons (d_var 0) (da_nil)))
    (dx_no))
def g_unrolled (c : Fid → FD) (cl : Cid → Addr) : FX := fnX 2 11 (
  xSeq (xCall (g_need_sheet c cl) (faCons (fV 0) (faNil))) (xNo))
theorem okx_unrolled (T : Txt K mg ad fd) (G : Gs P w K mg base ad fd n c) (CF : ∀ i, Exc1 K mg (cnm i) (cl i)) (GX : GX1 P w K mg base ad fd n c cl) : FnOk P w K mg base (L2.CX P w) (n + 1) (ad .unrolled) (fd .unrolled) (ps .unrolled) (spX (g_unrolled c cl)) := by
  have nd := sc_unrolled.nd
  exact d_fnX (T.fn .unrolled) sc_unrolled (fun cdv A outer s H E hr =>
    dx_cons (dx_call (takes_of rfl rfl rfl rfl) (GX.need_sheet) hr (by rfl) (T.mgF .need_sheet) (T.kp .need_sheet) (T.bd .need_sheet) (da_cons (d_var 0) (da_nil)))
    (dx_no))
end
end KK
end
section
set_option Elab.async false
set_option linter.all false
set_option maxRecDepth 100000
namespace DL
open PySem PySem.Spec PyProof.Rows L2
/-! ### arguments by name alone, in the parameters' order -/
def KB0 (fd : FuncData) (ps : List Str) : Prop := ∀ (s : Shared) (ws : List Value), ws.length = ps.length → BindsTo s fd ⟨[], ps.zip ws⟩ (ps.zip ws)
theorem KB0.mk' {K : PySem.W.Frag} {x qual : Str} {st : Stmt} {f : Addr} {fd : FuncData} {ps : List Str} (F : Fun K x qual st f fd)
    (h : ∀ (kV doc pm : Value) (an : Option Addr) (cdv ct : Value) (ws : List Value), ws.length = ps.length → bindArgs (PySem.W.fnOf x qual (defArgs st) (defBody st) (defScope st) .none kV doc pm an cdv ct) ⟨[], ps.zip ws⟩ = pure (ps.zip ws)) : KB0 fd ps := by
  obtain ⟨oc, od, kV, doc, pm, an, cdv, ct, osl, rfl, lk, hcd⟩ := F.ex
  exact fun s ws hl => .of_eq (h kV doc pm an cdv ct ws hl)
section
variable {X : Cx} {CX : CXT} {k : Nat} {f : Addr} {fd : FuncData} {ps : List Str} {sp : Sp} {E : L2.St → XK} {x : Str} {p pos kpos : Pos} {kws : List Keyword} {tk : TA} {e : Expr} {nm : Option Str}
theorem PK.weak {t t' : TA} (h : PK X kws t) (w : ∀ σ H Q, t' σ H Q → t σ H Q) : PK X kws t' := ⟨fun pos pins s σ H Q I q => h.run pos pins s σ H Q I (w σ H Q q)⟩
theorem run_fnk0 {pins : List (Addr × Obj)} {σ : L2.St} {H : Hp} {s : Shared} {Q : VK} {ws : List Value} {zs : List V} (F : FnOk X.prog X.w X.K X.mg X.base CX k f fd ps sp) (hr : Room k X.A) (hb : KB0 fd ps) (hx : PassesAt CX X σ (E σ))
    (I : Inv X pins σ H s) (rz : Vals zs ws) (h : sp zs H Q (E σ)) : wpAny (model X.prog X.w) X.A (call (.ref f) [] (ps.zip ws)) (EP X pins σ Q) X.xe s := by
  have hl : ws.length = ps.length := by rw [← rz.length]; exact F.len _ _ _ _ h
  refine wpAny_call (codeAny_mono (F.run X.A X.stack s H ⟨[], ps.zip ws⟩ ws zs Q (E σ) hr I.env0 (hb s ws hl) rz h) fun r s' hq => ?_)
  cases r with
  | error e => exact hx pins H s e s' I hq
  | ok fl =>
    cases fl with
    | ret u => exact I.after hq
    | next => exact False.elim hq
    | brk => exact False.elim hq
    | cont => exact False.elim hq
theorem pe_callSK0 (F : FnOk X.prog X.w X.K X.mg X.base CX k f fd ps sp) (hr : Room k X.A) (hg : Gl X x) (hm : X.mg x = some (.ref f)) (hk : PySem.W.keepIn X.K (.ref f) = true) (hb : KB0 fd ps) (hx : ∀ σ, PassesAt CX X σ (E σ))
    (hkw : PK X kws tk) (hall : (backToKw pos (keywordEach kws X.env)).all (·.1.isSome) = true := by rfl) (hks : (backToKw pos (keywordEach kws X.env)).filterMap (·.1) = ps := by rfl)
    (hdb : (x == ("__debug__" : Str)) = false := by decide) (hpl : ((backTo pos (starEach [] X.env)).any (·.1) || (backToKw pos (keywordEach kws X.env)).any (·.1.isNone)) = false := by rfl) :
    PE X (.Call (.Name x p) [] kws pos) (fun σ H Q => tk σ H fun zs H1 => sp zs H1 Q (E σ)) := by
  refine ⟨fun pins s σ H Q I h => ?_⟩
  refine wpAny_Call_Name_kw (ld_glob I hg hm ?_ hdb)
  refine PySem.W.callWith_KW0 (h₀ := X.base) I.ok.mod.kin hk hall (thn (hkw.run pos pins s σ H _ I h) fun ws s2 ⟨zs, H2, I2, rz, q2⟩ => ⟨I2.kIn, ?_⟩) hpl
  rw [hks]
  exact run_fnk0 F hr hb (hx σ) I2 rz q2
theorem dk_nil : PK X [] (tDA faNil) := PK.weak pk_nil fun σ H Q ⟨μ, ε, m, k, m', re, ok, e, q⟩ => by
  unfold faNil at e
  simp at e
  obtain ⟨rfl, rfl⟩ := e
  exact q [] H (Post.refl _ _) ok .nil
theorem dk_cons {fa : F} {g : FA} (ha : PE X e (tD fa)) (hr : PK X kws (tDA g)) : PK X (⟨nm, e, kpos⟩ :: kws) (tDA (faCons fa g)) := by
  refine PK.weak (pk_cons ha hr) fun σ H Q ⟨μ, ε, m, k, m', re, ok, e, q⟩ => ?_
  unfold faCons at e
  cases e1 : fa ε m with
  | none => rw [e1] at e; cases e
  | some p =>
    obtain ⟨d1, m1⟩ := p
    rw [e1] at e
    simp only [Option.bind_some] at e
    cases e2 : g ε m1 with
    | none => rw [e2] at e; cases e
    | some p2 =>
      obtain ⟨ds, m2⟩ := p2
      rw [e2] at e
      simp at e
      obtain ⟨rfl, rfl⟩ := e
      refine tD.step re ok e1 fun v H1 p1 ok1 re1 r1 => ?_
      exact tDA.step re1 ok1 e2 fun vs H2 p2 ok2 _ r2 => q _ H2 (p1.trans p2) ok2 (.cons (r1.grow p2) r2)
theorem passAt0 {σ : L2.St} {E' : XK} : PassesAt CX0 X σ E' := fun _ _ _ _ _ _ h => h.elim
theorem d_callK {g : FD} {fs : FA} (G : FnOk X.prog X.w X.K X.mg X.base CX0 k f fd ps (spD g)) (hr : Room k X.A) (hg : Gl X x) (hm : X.mg x = some (.ref f)) (hk : PySem.W.keepIn X.K (.ref f) = true)
    (hb : KB0 fd ps) (ha : PK X kws (tDA fs)) (hdb : (x == ("__debug__" : Str)) = false := by decide) (hall : (backToKw pos (keywordEach kws X.env)).all (·.1.isSome) = true := by rfl) (hks : (backToKw pos (keywordEach kws X.env)).filterMap (·.1) = ps := by rfl)
    (hpl : ((backTo pos (starEach [] X.env)).any (·.1) || (backToKw pos (keywordEach kws X.env)).any (·.1.isNone)) = false := by rfl) : PE X (.Call (.Name x p) [] kws pos) (tD (fCall g fs)) := by
  refine PE.weak (pe_callSK0 (E := fun _ => E0) G hr hg hm hk hb (fun _ => passAt0) ha hall hks hdb hpl) fun σ H Q ⟨μ, ε, m, d, m', re, ok, e, q⟩ => ?_
  unfold fCall at e
  cases e1 : fs ε m with
  | none => rw [e1] at e; cases e
  | some p =>
    obtain ⟨ds, m1⟩ := p
    rw [e1] at e
    simp only [Option.bind_some] at e
    refine tDA.step re ok e1 fun vs H1 p1 ok1 re1 r1 => ?_
    exact ⟨μ, ds, m1, d, m', r1, ok1, e, fun v H2 p2 ok2 r2 => q v H2 (p1.trans p2) ok2 r2⟩
theorem dx_callK {W : WX} {gX : FX} {fs : FA} {pc : Pos} (tk : Takes X W) (G : FnOk X.prog X.w X.K X.mg X.base (L2.CX X.prog X.w) k f fd ps (spX gX)) (hr : Room k X.A) (hg : Gl X x) (hm : X.mg x = some (.ref f)) (hk : PySem.W.keepIn X.K (.ref f) = true)
    (hb : KB0 fd ps) (ha : PK X kws (tDA fs)) (hdb : (x == ("__debug__" : Str)) = false := by decide) (hall : (backToKw pc (keywordEach kws X.env)).all (·.1.isSome) = true := by rfl) (hks : (backToKw pc (keywordEach kws X.env)).filterMap (·.1) = ps := by rfl)
    (hpl : ((backTo pc (starEach [] X.env)).any (·.1) || (backToKw pc (keywordEach kws X.env)).any (·.1.isNone)) = false := by rfl)
    (hs : swapsWith (.Call (.Name x p) [] kws pc) none pos.line X.env = pure false := by rfl) : PS X (.Expr (.Call (.Name x p) [] kws pc) pos) (tDX W (xCall gX fs)) := by
  refine PS.weak (ps_expr (pe_callSK0 (E := WE W) G hr hg hm hk hb (fun σ => passAt tk σ) ha hall hks hdb hpl) hs) fun D σ H ⟨μ, ε, m, o, re, ok, e, q⟩ => ?_
  unfold xCall at e
  cases e1 : fs ε m with
  | none => rw [e1] at e; cases e
  | some pr =>
    obtain ⟨ds, m1⟩ := pr
    rw [e1] at e
    simp only [Option.bind_some] at e
    cases e2 : gX ds m1 with
    | none => rw [e2] at e; cases e
    | some r =>
      rw [e2] at e
      refine tDA.step re ok e1 fun vs H1 p1 ok1 re1 r1 => ⟨μ, ds, m1, r, r1, ok1, e2, ?_⟩
      cases r with
      | ok d m' => cases e; exact fun v H2 p2 ok2 r2 => q μ σ H2 (p1.trans p2) (re1.grow p2) ok2
      | ex c m' => cases e; exact fun H2 p2 ok2 => q μ σ H2 (p1.trans p2) (re1.grow p2) ok2
/-- a new list is walked -/
theorem di_new {fa : FN} {a tg : Expr} (ha : PE X a (tDN fa)) : PI X tg a (tDI fa) := by
  refine ⟨fun pins s σ H R I ⟨μ, ε, m, ds, m', re, ok, e, q⟩ => ?_⟩
  refine (pi_list ha).run pins s σ H R I ⟨μ, ε, m, ds, m', re, ok, e, fun p H' vs p1 ok1 hn h1 hf rs => ⟨_, rfl, ⟨_, SqL.of h1⟩, q _ H' p1 ok1 (dwalk_lst h1 hf rs)⟩⟩
end
section
variable {P : Program} {w : World} {K : PySem.W.Frag} {mg : Str → Option Value} {base : Heap}
/-- a def of which nothing is promised -/
theorem d_never {f : Addr} {fd : FuncData} {ps : List Str} {k : Nat} : FnOk P w K mg base CX0 k f fd ps (spD fun _ _ => none) :=
  ⟨fun _ _ _ _ h => (nomatch h.choose_spec.choose_spec.choose_spec.choose_spec.choose_spec.2.2.1), fun _ _ _ _ _ _ _ _ _ _ _ _ _ h => (nomatch h.choose_spec.choose_spec.choose_spec.choose_spec.choose_spec.2.2.1)⟩
end
end DL
end
section
set_option Elab.async false
set_option linter.all false
set_option maxRecDepth 100000
namespace DL
open PySem PySem.Spec PyProof.Rows L2
/-! ### a dict that a def makes of pairs and hands back, read at once -/
inductive RepK (μ : Mu) (H : Hp) : List (Key × V) → List (Key × D) → Prop
  | nil : RepK μ H [] []
  | cons {k : Key} {v : V} {d : D} {vs : List (Key × V)} {ds : List (Key × D)} : Rep μ H v d → RepK μ H vs ds → RepK μ H ((k, v) :: vs) ((k, d) :: ds)
theorem RepK.ke {μ μ' : Mu} {H H' : Hp} (p : Ke μ H μ' H') : ∀ {vs : List (Key × V)} {ds : List (Key × D)}, RepK μ H vs ds → RepK μ' H' vs ds
  | _, _, .nil => .nil
  | _, _, .cons r t => .cons (r.ke p) (t.ke p)
theorem RepK.length {μ : Mu} {H : Hp} : ∀ {vs : List (Key × V)} {ds : List (Key × D)}, RepK μ H vs ds → vs.length = ds.length
  | _, _, .nil => rfl
  | _, _, .cons _ t => congrArg (· + 1) t.length
theorem RepK.any {μ : Mu} {H : Hp} {k : Key} : ∀ {vs : List (Key × V)} {ds : List (Key × D)}, RepK μ H vs ds → (vs.any fun kv => decide (kv.1 = k)) = (ds.any fun kv => decide (kv.1 = k))
  | _, _, .nil => rfl
  | _, _, .cons _ t => by rw [List.any_cons, List.any_cons, t.any]
theorem RepK.map {μ : Mu} {H : Hp} {k : Key} {v : V} {d : D} (r : Rep μ H v d) : ∀ {vs : List (Key × V)} {ds : List (Key × D)}, RepK μ H vs ds → RepK μ H (vs.map fun kv => if kv.1 = k then (kv.1, v) else kv) (ds.map fun kv => if kv.1 = k then (kv.1, d) else kv)
  | _, _, .nil => .nil
  | _, _, .cons (k := j) ra t => by
    rw [List.map_cons, List.map_cons]
    by_cases h : j = k
    · simp only [h, if_true]; exact .cons r (RepK.map r t)
    · simp only [h, if_false]; exact .cons ra (RepK.map r t)
theorem RepK.app {μ : Mu} {H : Hp} {k : Key} {v : V} {d : D} (r : Rep μ H v d) : ∀ {vs : List (Key × V)} {ds : List (Key × D)}, RepK μ H vs ds → RepK μ H (vs ++ [(k, v)]) (ds ++ [(k, d)])
  | _, _, .nil => .cons r .nil
  | _, _, .cons ra t => .cons ra (RepK.app r t)
def putDK (kvs : List (Key × D)) (k : Key) (v : D) : List (Key × D) :=
  if (kvs.any fun kv => decide (kv.1 = k)) = true then kvs.map (fun kv => if kv.1 = k then (kv.1, v) else kv) else kvs ++ [(k, v)]
def valDK (kvs : List (Key × D)) (k : Key) : Option D := (kvs.find? fun kv => decide (kv.1 = k)).map (·.2)
theorem RepK.put {μ : Mu} {H : Hp} {k : Key} {v : V} {d : D} {vs : List (Key × V)} {ds : List (Key × D)} (t : RepK μ H vs ds) (r : Rep μ H v d) : RepK μ H (putK vs k v) (putDK ds k d) := by
  unfold putK putDK
  rw [t.any]
  split
  · exact RepK.map r t
  · exact RepK.app r t
theorem RepK.val {μ : Mu} {H : Hp} {k : Key} {d : D} : ∀ {vs : List (Key × V)} {ds : List (Key × D)}, RepK μ H vs ds → valDK ds k = some d → ∃ v, valV vs k = some v ∧ Rep μ H v d
  | _, _, .nil, e => by simp [valDK] at e
  | _, _, .cons (k := j) (v := v) (d := d') (vs := vs) (ds := ds) ra t, e => by
    by_cases h : j = k
    · refine ⟨v, by simp [valV, h], ?_⟩
      have : d' = d := by simpa [valDK, h] using e
      rw [← this]; exact ra
    · have e' : valDK ds k = some d := by simpa [valDK, h] using e
      obtain ⟨u, e1, r1⟩ := RepK.val t e'
      exact ⟨u, by simpa [valV, h] using e1, r1⟩
abbrev FDK := List D → M → Option (List (Key × D))
def spK (g : FDK) : Sp := fun vs H Q _ => ∃ μ ds m kvs, Reps μ H vs ds ∧ MOk μ H m ∧ g ds m = some kvs ∧ ∀ p H' vk, Post μ H μ H' → MOk μ H' m → H' p = some (.dK vk) → RepK μ H' vk kvs → Q (.ref p) H'
def knownD (m : M) : List D → List (Key × D) → Option (List (Key × D))
  | [], acc => some acc
  | e :: r, acc => (ixG e (.int 1) m).bind fun v => (ixG e (.int 0) m).bind fun z => (keyD z).bind fun k => if acc.length < sizeLine then knownD m r (putDK acc k v) else none
def knownG : FDK := fun ds m => match ds with
  | [s] => (ixG s (.int 1) m).bind fun x => (itemsD x).bind fun es => knownD m es []
  | _ => none
structure DcI (μ : Mu) (H1 : Hp) (L : Addr) (H : Hp) (acc : List (Key × D)) (m : M) : Prop where
  ke : Ke μ H1 (hideM μ L) H
  kb : Ke (hideM μ L) (upd H1 L (.dK [])) (hideM μ L) H
  po : Post μ H1 μ H
  ok : MOk (hideM μ L) H m
  at_ : ∃ vk, H L = some (.dK vk) ∧ RepK (hideM μ L) H vk acc
theorem dcI_start {μ : Mu} {H1 : Hp} {L : Addr} {m : M} (ok : MOk μ H1 m) (hn : H1 L = none) : DcI μ H1 L (upd H1 L (.dK [])) [] m :=
  ⟨ke_hide hn _, Ke.refl _ _, post_new hn _, ok.hide hn _, [], upd_same, .nil⟩
theorem DcI.grow {μ : Mu} {H1 H H2 : Hp} {L : Addr} {acc : List (Key × D)} {m m2 : M} (i : DcI μ H1 L H acc m) (p : Post (hideM μ L) H (hideM μ L) H2) (ok2 : MOk (hideM μ L) H2 m2) : DcI μ H1 L H2 acc m2 := by
  obtain ⟨vk, hL, rs⟩ := i.at_
  have nl : L ∉ μ.l := (i.ok.hid L List.mem_cons_self).1
  refine ⟨i.ke.trans p.ke, i.kb.trans p.ke, ⟨⟨[], by simp, by simp⟩, fun a o h hn => p.keep a o (i.po.keep a o h hn) hn, fun a o h => ?_⟩, ok2, vk, p.keep L _ hL nl, rs.ke p.ke⟩
  obtain ⟨o1, e1⟩ := i.po.dom a o h
  exact p.dom a o1 e1
theorem DcI.put {μ : Mu} {H1 H : Hp} {L : Addr} {acc : List (Key × D)} {m : M} {k : Key} {v : V} {d : D} {vk : List (Key × V)} (hn : H1 L = none) (i : DcI μ H1 L H acc m) (hL : H L = some (.dK vk)) (r : Rep (hideM μ L) H v d) : DcI μ H1 L (upd H L (.dK (putK vk k v))) (putDK acc k d) m := by
  obtain ⟨vk', hL', rs⟩ := i.at_
  rw [hL] at hL'
  cases hL'
  refine ⟨i.ke.trans (ke_write _), i.kb.trans (ke_write _), ⟨⟨[], by simp, by simp⟩, fun a o h hm => ?_, fun a o h => ?_⟩, i.ok.write _, _, upd_same, (rs.put r).ke (ke_write _)⟩
  · rw [upd_ne (ne_of_none h hn)]; exact i.po.keep a o h hm
  · obtain ⟨o1, e1⟩ := i.po.dom a o h
    exact ⟨o1, by rw [upd_ne (ne_of_none h hn)]; exact e1⟩
theorem ix_m {x i d : D} {m : M} (f : F) : True := trivial
/-- x = {}; for e in s[1]: x[e[0]] = e[1]; return x -/
theorem known_pure {σ0 : L2.St} {H0 : Hp} {Q : VK} {D0 : Ends} (hD : D0.rt = Q) {μ : Mu} {ds : List D} {vs : List V} {m : M} {kvs : List (Key × D)} (hσ : σ0 = vs.map some ++ [none, none]) (rs : Reps μ H0 vs ds) (ok : MOk μ H0 m) (e : knownG ds m = some kvs)
    (q : ∀ p H' vk, Post μ H0 μ H' → MOk μ H' m → H' p = some (.dK vk) → RepK μ H' vk kvs → Q (.ref p) H') :
    tSeq (tAsg tDNewK (gName 1)) (tSeq (tFor (tDI (fItems (fBin ixG (fV 0) (fC (.int 1))))) (gName 2) (sDPut (tVar 1) (tD (fBin ixG (fV 2) (fC (.int 0)))) (tD (fBin ixG (fV 2) (fC (.int 1)))))) (tRet (tVar 1))) D0 σ0 H0 := by
  match ds, e with
  | [s], e =>
    cases rs with
    | @cons v0 _ _ _ r0 rn =>
    cases rn
    have e : ((ixG s (.int 1) m).bind fun x => (itemsD x).bind fun es => knownD m es []) = some kvs := e
    cases e1 : ixG s (.int 1) m with
    | none => rw [e1] at e; cases e
    | some x =>
    rw [e1] at e
    simp only [Option.bind_some] at e
    cases e2 : itemsD x with
    | none => rw [e2] at e; cases e
    | some es =>
    rw [e2] at e
    simp only [Option.bind_some] at e
    intro L hL
    have i0 := dcI_start (m := m) ok hL
    have re0 : REnv (hideM μ L) (upd H0 L (.dK [])) [some v0, some (.ref L), none] [some s, none, none] := by
      refine ⟨rfl, fun j d hj => ?_⟩
      match j, hj with
      | 0, hj => cases hj; exact ⟨v0, rfl, r0.ke (ke_hide hL _)⟩
      | 1, hj => cases hj
      | 2, hj => cases hj
      | j + 3, hj => simp at hj
    subst hσ
    refine ⟨hideM μ L, _, m, es, m, re0, i0.ok, by simp [fItems, fBin, fV, fC, e1, e2], fun J H1 p1 ok1 w => ?_⟩
    obtain ⟨G, Y, W, hG, hY⟩ := w.ex
    have i1 := i0.grow p1 ok1
    refine for_it W (fun i σ2 H2 => Post (hideM μ L) H1 (hideM μ L) H1 ∧ (∃ acc, DcI μ H0 L H2 acc m ∧ Ke (hideM μ L) H1 (hideM μ L) H2 ∧ knownD m (es.drop i) acc = some kvs) ∧ ∃ z, σ2 = [some v0, some (.ref L), z]) ⟨Post.refl _ _, ⟨[], i1, Ke.refl _ _, e⟩, none, rfl⟩ (fun i σ2 H2 _ h => hG _ H2 h.2.1.choose_spec.2.1) (fun i x σ2 H2 H3 hi ⟨_, ⟨acc, ia, ka, ea⟩, z, hz⟩ y => ?_) (fun σ2 H2 ⟨_, ⟨acc, ia, ka, ea⟩, z, hz⟩ => ?_)
    · obtain ⟨p3, ok3, d, hd, rd⟩ := hY i _ H2 x H3 m ka ia.ok hi y
      have hd2 : es.drop i = d :: es.drop (i + 1) := by
        obtain ⟨hlt, he⟩ := List.getElem?_eq_some_iff.mp hd
        rw [← he]
        exact List.drop_eq_getElem_cons hlt
      rw [hd2] at ea
      unfold knownD at ea
      cases f1 : ixG d (.int 1) m with
      | none => rw [f1] at ea; cases ea
      | some dv =>
      rw [f1] at ea
      simp only [Option.bind_some] at ea
      cases f2 : ixG d (.int 0) m with
      | none => rw [f2] at ea; cases ea
      | some dz =>
      rw [f2] at ea
      simp only [Option.bind_some] at ea
      cases f3 : keyD dz with
      | none => rw [f3] at ea; cases ea
      | some k =>
      rw [f3] at ea
      simp only [Option.bind_some] at ea
      split at ea
      case isFalse => cases ea
      rename_i hlen
      have ia3 := ia.grow p3 ok3
      subst hz
      have re3 : REnv (hideM μ L) H3 [some v0, some (.ref L), some x] [none, none, some d] := by
        refine ⟨rfl, fun j d' hj => ?_⟩
        match j, hj with
        | 0, hj => cases hj
        | 1, hj => cases hj
        | 2, hj => cases hj; exact ⟨x, rfl, rd⟩
        | j + 3, hj => simp at hj
      refine ⟨hideM μ L, [none, none, some d], m, dv, m, re3, ok3, by simp [fBin, fV, fC, f1], fun v H4 p4 ok4 r4 => ?_⟩
      refine ⟨.ref L, rfl, ?_⟩
      refine ⟨hideM μ L, [none, none, some d], m, dz, m, re3.grow p4, ok4, by simp [fBin, fV, fC, f2], fun yv H5 p5 ok5 r5 => ?_⟩
      have ia5 := (ia3.grow p4 ok4).grow p5 ok5
      obtain ⟨vk, hvk, rvk⟩ := ia5.at_
      have hy : yv = kV k := by
        cases r5 with
        | int i => cases f3; rfl
        | str s => cases f3; rfl
        | _ => cases f3
      subst hy
      refine ⟨L, _, rfl, DPut.k hvk (by rw [rvk.length]; exact hlen), Post.refl _ _, ⟨_, ia5.put hL hvk (r4.grow p5), ((ka.trans p3.ke).trans p4.ke).trans (p5.ke.trans (ke_write _)), ea⟩, some x, rfl⟩
    · rw [List.drop_length] at ea
      cases ea
      subst hz
      obtain ⟨vk, hvk, rvk⟩ := ia.at_
      refine ⟨.ref L, rfl, ?_⟩
      rw [hD]
      exact q L H2 vk ia.po ia.ok.show hvk (rvk.ke ke_show)
section
variable {X : Cx} {k : Nat} {f : Addr} {fd : FuncData} {ps : List Str} {x : Str} {p pos cpos : Pos} {g : FDK} {a i : Expr} {es : List Expr} {fs : FA} {fi : F}
/-- f(..)[i], f hands a dict back -/
def fKGet (g : FDK) (fs : FA) (fi : F) : F := fun ε m => (fs ε m).bind fun q => (g q.1 q.2).bind fun kvs => (fi ε q.2).bind fun z => (keyD z.1).bind fun k => (valDK kvs k).map fun d => (d, z.2)
theorem d_kget (hu : X.A.units + 1 < cLine) (G : FnOk X.prog X.w X.K X.mg X.base CX0 k f fd ps (spK g)) (hr : Room k X.A) (hg : Gl X x) (hm : X.mg x = some (.ref f)) (hk : PySem.W.keepIn X.K (.ref f) = true)
    (hb : Binds X.K fd ps []) (ha : PA X (a :: es) (tDA fs)) (hi : PE X i (tD fi)) (hs : NoSl i) (hp : ∀ ε m d m', fi ε m = some (d, m') → m' = m) (hdb : (x == ("__debug__" : Str)) = false := by decide) (he : starEach (a :: es) X.env = (false, eval a X.env) :: starEach es X.env := by rfl) (hpl : (backTo cpos (starEach es X.env)).any (·.1) = false := by rfl) :
    PE X (.Subscript (.Call (.Name x p) (a :: es) [] cpos) i pos) (tD (fKGet g fs fi)) := by
  refine PE.weak (pe_dget hu (pe_call G hr hg hm hk hb .nil pass0 ha hdb he hpl) hi hs) fun σ H Q ⟨μ, ε, m, d, m', re, ok, e, q⟩ => ?_
  unfold fKGet at e
  cases e1 : fs ε m with
  | none => rw [e1] at e; cases e
  | some pr =>
  obtain ⟨ds, m1⟩ := pr
  rw [e1] at e
  simp only [Option.bind_some] at e
  cases e2 : g ds m1 with
  | none => rw [e2] at e; cases e
  | some kvs =>
  rw [e2] at e
  simp only [Option.bind_some] at e
  cases e3 : fi ε m1 with
  | none => rw [e3] at e; cases e
  | some z =>
  obtain ⟨zd, mz⟩ := z
  rw [e3] at e
  simp only [Option.bind_some] at e
  cases e4 : keyD zd with
  | none => rw [e4] at e; cases e
  | some kk =>
  rw [e4] at e
  simp only [Option.bind_some] at e
  cases e5 : valDK kvs kk with
  | none => rw [e5] at e; cases e
  | some dd =>
  rw [e5] at e
  have hz := hp _ _ _ _ e3
  cases e
  subst hz
  refine tDA.step re ok e1 fun vs H1 p1 ok1 re1 r1 => ?_
  refine ⟨μ, ds, m', kvs, by rw [List.append_nil]; exact r1, ok1, e2, fun pa H2 vk p2 ok2 h2 rk => ?_⟩
  refine tD.step (re1.grow p2) ok2 e3 fun yv H3 p3 ok3 re3 r3 => ?_
  have hy : yv = kV kk := by
    cases r3 with
    | int i => cases e4; rfl
    | str s => cases e4; rfl
    | _ => cases e4
  subst hy
  obtain ⟨v, hv, rv⟩ := RepK.val (rk.ke p3.ke) e5
  have hnl : pa ∉ μ.l := fun z => by
    obtain ⟨ws, hw⟩ := ok2.has z
    rw [h2] at hw; cases hw
  refine ⟨pa, v, rfl, ?_, q v H3 ((p1.trans p2).trans p3) ok3 rv⟩
  rw [← hv]
  exact DGet.k (p3.keep pa _ h2 hnl)
end
end DL
end
section
set_option Elab.async false
set_option linter.all false
set_option maxRecDepth 100000
namespace DL
open PySem PySem.Spec PyProof.Rows L2
/-! ### try: .. except C as n: .. -/
theorem REnv.unset {μ : Mu} {H : Hp} {σ : L2.St} {ε : Ev} (r : REnv μ H σ ε) (i : Nat) (x : Option V) : REnv μ H (σ.set i x) (ε.set i none) := by
  refine ⟨by simp [r.len], fun j d h => ?_⟩
  rw [List.getElem?_set] at h
  split at h
  · split at h <;> cases h
  · rename_i hij
    obtain ⟨w, e1, r1⟩ := r.at_ j d h
    exact ⟨w, by rw [List.getElem?_set_ne hij]; exact e1, r1⟩
def sTry (i : Nat) (fx : FSX) (hand : Addr → Option FS) : FS := fun ε m => (fx ε m).bind fun o => match o with
  | .o out => some out
  | .ex C ε' m' => if i < ε'.length then (hand C).bind fun f => (f (ε'.set i none) m').bind fun o => match o with
    | .nx ε2 m2 => some (.nx (ε2.set i none) m2)
    | _ => none else none
def tHand (i : Nat) (a : Addr) (f : FS) : TS := fun D σ H => σ[i]? = some (some (.ref a)) ∧ tDS f D σ H
section
variable {X : Cx} {x n : Str} {c : Value} {i : Nat} {body suite : List Stmt} {b₀ : Stmt} {np pos pos' : Pos} {fx : FSX} {hand : Addr → Option FS}
theorem ds_try (hs : X.stack = X.env :: X.outer) (hf : X.env.frame = some X.env.locals) (hN : X.N.Nodup) (hi : X.N[i]? = some n) (hln : X.env.kindOf n = some .local) (hc : Names X x c)
    (hb : ∀ (W : WX) (pn : List (Addr × Obj)) (xe : Value → Shared → Prop), Takes (X.tr pn xe) W → PassesOwn (model X.prog X.w) X.A X.env xe → PSs (X.tr pn xe) body (tDX W fx))
    (hm : ∀ C f, hand C = some f → PySem.W.exmOne X.K (.ref C) c = some true)
    (hsu : ∀ (C : Addr) (f : FS) (a : Addr) (oe : Obj) (pn : List (Addr × Obj)), hand C = some f → Zc (.ref C) none oe → (∃ vs, oe.data = .fields vs) → PSs (X.suite a ((a, oe) :: pn)) (b₀ :: suite) (tHand i a f)) :
    PS X (.Try body [.ExceptHandler (some (.Name x np)) (some n) (b₀ :: suite) pos'] [] [] pos) (tDS (sTry i fx hand)) := by
  refine PS.weak (ps_try_as (i := i) (c := c) (tb := fun W => tDX W fx) (ts := fun a cls d D σ H => ∃ C f, cls = .ref C ∧ d = none ∧ hand C = some f ∧ tHand i a f D σ H) (Wout := fun _ _ _ _ => False) hs hf hN hi hln hc takes0 hb
    (fun a oe cls d pn hz hfl => ⟨fun pins s σ H D I ⟨C, f, e1, e2, hh, h⟩ => ?_⟩)) fun D σ H ⟨μ, ε, m, o, re, ok, e, q⟩ => ?_
  · subst e1 e2
    exact (hsu C f a oe pn hh hz hfl).run pins s σ H D I h
  · unfold sTry at e
    cases e1 : fx ε m with
    | none => rw [e1] at e; cases e
    | some o1 =>
      rw [e1] at e
      simp only [Option.bind_some] at e
      refine ⟨μ, ε, m, o1, re, ok, e1, ?_⟩
      cases o1 with
      | o out => cases e; exact q
      | ex C ε' m' =>
        have e : (if i < ε'.length then (hand C).bind fun f => (f (ε'.set i none) m').bind fun o => match o with
          | .nx ε2 m2 => some (.nx (ε2.set i none) m2)
          | _ => none else none) = some o := e
        split at e
        case isFalse => cases e
        rename_i hlt
        cases e2 : hand C with
        | none => rw [e2] at e; cases e
        | some f =>
          rw [e2] at e
          simp only [Option.bind_some] at e
          cases e3 : f (ε'.set i none) m' with
          | none => rw [e3] at e; cases e
          | some o3 =>
            rw [e3] at e
            simp only [Option.bind_some] at e
            intro μ' σ' H' p1 re1 ok1
            refine ⟨true, hm C f e2, fun _ a ha => ?_, fun z => Bool.noConfusion z⟩
            have hl : i < σ'.length := by rw [re1.len]; exact hlt
            cases o3 with
            | nx ε2 m2 =>
              cases e
              exact ⟨C, f, rfl, rfl, e2, List.getElem?_set_self hl, μ', _, m', _, re1.unset i _, ok1, e3, fun μ2 σ2 H2 p2 re2 ok2 => q μ2 _ H2 (p1.trans p2) (re2.unset i none) ok2⟩
            | _ => cases e
theorem da_ofV {j : Nat} {es : List Expr} : True := trivial
/-- isinstance(e, C2), e the exception that the suite holds in slot i -/
theorem pe_isE {a D C2 : Addr} {oe : Obj} {pn : List (Addr × Obj)} {b : Bool} {y : Str} {p1 p2 p3 pos : Pos} (C : ExcC X.K D) (hz : Zc (.ref D) none oe) (hf : ∃ vs, oe.data = .fields vs) (hk : PySem.W.kitOne X.K (.ref D) (.ref C2) = some b)
    (hg : Gl (X.suite a ((a, oe) :: pn)) "isinstance") (hm : X.mg "isinstance" = none) (hN : X.N[i]? = some n) (hv : Vis X.env.scope n) (hd : (n == ("__debug__" : Str)) = false) (hcd : (n == ("__classdict__" : Str)) = false)
    (hg2 : Gl (X.suite a ((a, oe) :: pn)) y) (hm2 : X.mg y = some (.ref C2)) (hd2 : (y == ("__debug__" : Str)) = false) (he : starEach [.Name n p1, .Name y p2] (X.suite a ((a, oe) :: pn)).env = (false, eval (.Name n p1) (X.suite a ((a, oe) :: pn)).env) :: starEach [.Name y p2] (X.suite a ((a, oe) :: pn)).env := by rfl) (hpl : (backTo pos (starEach [.Name y p2] (X.suite a ((a, oe) :: pn)).env)).any (·.1) = false := by rfl)
    (he1 : starEach [.Name y p2] (X.suite a ((a, oe) :: pn)).env = (false, eval (.Name y p2) (X.suite a ((a, oe) :: pn)).env) :: starEach [] (X.suite a ((a, oe) :: pn)).env := by rfl) :
    PE (X.suite a ((a, oe) :: pn)) (.Call (.Name "isinstance" p3) [.Name n p1, .Name y p2] [] pos) (fun σ H Q => σ[i]? = some (some (.ref a)) ∧ Q (.bl b) H) := by
  refine PE.weak (pe_callB (id := "isinstance") (call_isE C hz hf) hg hm (by decide +kernel) (pa_cons (pe_var (i := i) hN hv hd hcd) (pa_cons (pe_glob (v := .ref C2) hg2 hm2 rfl hd2) pa_nil he1) he) (by decide +kernel) (by decide +kernel) he hpl) fun σ H Q ⟨h, q⟩ => ?_
  exact ⟨.ref a, h, .ref C2, .ref C2, b, rfl, fun u r => r, hk, q⟩
end
end DL
end
section
set_option Elab.async false
set_option linter.all false
set_option maxRecDepth 100000
set_option maxHeartbeats 4000000
namespace KK
open PySem PySem.Spec PyProof.Rows L2 DL

section
variable {P : Program} {w : World} {K : PySem.W.Frag} {mg : Str → Option Value} {base : Heap} {ad : Fid → Addr} {fd : Fid → FuncData} {n : Nat} {c : Fid → FD}
variable {cl : Cid → Addr} {cw : Addr}
structure GX2 (P : Program) (w : World) (K : PySem.W.Frag) (mg : Str → Option Value) (base : Heap) (ad : Fid → Addr) (fd : Fid → FuncData) (n : Nat) (c : Fid → FD) (cl : Cid → Addr) : Prop where
  places : FnOk P w K mg base (L2.CX P w) n (ad .places) (fd .places) (ps .places) (spX (g_places c cl))
  part : FnOk P w K mg base (L2.CX P w) n (ad .part) (fd .part) (ps .part) (spX (g_part c cl))
  lifted : FnOk P w K mg base (L2.CX P w) n (ad .lifted) (fd .lifted) (ps .lifted) (spX (g_lifted c cl))
  inlined : FnOk P w K mg base (L2.CX P w) n (ad .inlined) (fd .inlined) (ps .inlined) (spX (g_inlined c cl))
  changed : FnOk P w K mg base (L2.CX P w) n (ad .changed) (fd .changed) (ps .changed) (spX (g_changed c cl))
  grafted : FnOk P w K mg base (L2.CX P w) n (ad .grafted) (fd .grafted) (ps .grafted) (spX (g_grafted c cl))
  renamed : FnOk P w K mg base (L2.CX P w) n (ad .renamed) (fd .renamed) (ps .renamed) (spX (g_renamed c cl))
  rooted : FnOk P w K mg base (L2.CX P w) n (ad .rooted) (fd .rooted) (ps .rooted) (spX (g_rooted c cl))
  trimmed : FnOk P w K mg base (L2.CX P w) n (ad .trimmed) (fd .trimmed) (ps .trimmed) (spX (g_trimmed c cl))
  unrolled : FnOk P w K mg base (L2.CX P w) n (ad .unrolled) (fd .unrolled) (ps .unrolled) (spX (g_unrolled c cl))
structure KBs (fd : Fid → FuncData) : Prop where
  places : KB0 (fd .places) (ps .places)
  part : KB0 (fd .part) (ps .part)
  is_sheet : KB0 (fd .is_sheet) (ps .is_sheet)
  is_term : KB0 (fd .is_term) (ps .is_term)
/-- what the row says of the classes -/
structure CTxt (K : PySem.W.Frag) (mg : Str → Option Value) (cl : Cid → Addr) (cw : Addr) : Prop where
  ex1 : ∀ i, Exc1 K mg (cnm i) (cl i)
  exc : ∀ i, ExcC K (cl i)
  kit : ∀ i j, PySem.W.kitOne K (.ref (cl i)) (.ref (cl j)) = some (match i, j with | .InvalidSheet, .InvalidSheet => true | .InvalidPlace, .InvalidPlace => true | _, _ => false)
  gw : mg "WireError" = some (.ref cw)
  exm : ∀ i, PySem.W.exmOne K (.ref (cl i)) (.ref cw) = some true
def heard : Cid → Str
  | .InvalidSheet => "sheet."
  | .InvalidPlace => "place."
def handOf (cl : Cid → Addr) (C : Addr) : Option FS := if C = cl .InvalidSheet then some (sSet 4 (fC (.str "sheet."))) else if C = cl .InvalidPlace then some (sSet 4 (fC (.str "place."))) else none
theorem handOf_some {C : Addr} {f : FS} (h : handOf cl C = some f) : ∃ i, C = cl i ∧ f = sSet 4 (fC (.str (heard i))) := by
  unfold handOf at h
  split at h
  · rename_i e; cases h; exact ⟨.InvalidSheet, e, rfl⟩
  · split at h
    · rename_i e; cases h; exact ⟨.InvalidPlace, e, rfl⟩
    · cases h
def x_law_asked (c : Fid → FD) (cl : Cid → Addr) : FSX :=
  xIf (fT (fBin eqG (fV 0) (fC (.int 0)))) (xCall (g_places c cl) (faCons (fV 1) (faNil))) (xIf (fT (fBin eqG (fV 0) (fC (.int 1)))) (xCall (g_part c cl) (faCons (fV 1) (faCons (fV 2) (faNil)))) (xIf (fT (fBin eqG (fV 0) (fC (.int 2)))) (xCall (g_lifted c cl) (faCons (fV 1) (faCons (fV 2) (faCons (fV 3) (faNil))))) (xIf (fT (fBin eqG (fV 0) (fC (.int 3)))) (xCall (g_inlined c cl) (faCons (fV 1) (faCons (fV 2) (faNil)))) (xIf (fT (fBin eqG (fV 0) (fC (.int 4)))) (xCall (g_changed c cl) (faCons (fV 1) (faCons (fV 2) (faCons (fV 3) (faNil))))) (xIf (fT (fBin eqG (fV 0) (fC (.int 5)))) (xCall (g_grafted c cl) (faCons (fV 1) (faCons (fV 2) (faCons (fV 3) (faNil))))) (xIf (fT (fBin eqG (fV 0) (fC (.int 6)))) (xCall (g_renamed c cl) (faCons (fV 1) (faCons (fV 3) (faNil)))) (xIf (fT (fBin eqG (fV 0) (fC (.int 7)))) (xCall (g_rooted c cl) (faCons (fV 1) (faCons (fV 3) (faNil)))) (xIf (fT (fBin eqG (fV 0) (fC (.int 8)))) (xCall (g_trimmed c cl) (faCons (fV 1) (faNil))) (xCall (g_unrolled c cl) (faCons (fV 1) (faCons (fV 3) (faNil))))))))))))
def b_law_asked (c : Fid → FD) (cl : Cid → Addr) : FS := sSeq (sSet 4 (fC (.str ""))) (sSeq (sTry 5 (x_law_asked c cl) (handOf cl)) (sRet (fV 4)))
theorem ok_law_asked (T : Txt K mg ad fd) (CT : CTxt K mg cl cw) (KB : KBs fd) (GX : GX2 P w K mg base ad fd n c cl) : FnOk P w K mg base CX0 (n + 1) (ad .law_asked) (fd .law_asked) (ps .law_asked) (spD (fnD 4 6 (b_law_asked c cl))) := by
  have nd := sc_law_asked.nd
  refine d_fn (T.fn .law_asked) sc_law_asked (fun cdv A outer s H E hr => ds_cons (ds_set (i := 4) nd rfl (Or.inl rfl) d_str) (ds_cons (ds_try (i := 5) (c := .ref cw) rfl rfl nd rfl rfl ⟨rfl, by decide, Or.inl CT.gw⟩ (fun W pn xe tk _ => ?_) (fun C f h => ?_) (fun C f a oe pn h hz hf => ?_)) (ds_one (ds_ret (d_var 4)))))
  · exact dx_one (dx_if (dt_eq hr.units (d_var 0) (d_int)) (dx_one (dx_callK (tk) (GX.places) hr (by rfl) (T.mgF .places) (T.kp .places) (KB.places) (dk_cons (d_var 1) (dk_nil)))) (dx_one (dx_if (dt_eq hr.units (d_var 0) (d_int)) (dx_one (dx_callK (tk) (GX.part) hr (by rfl) (T.mgF .part) (T.kp .part) (KB.part) (dk_cons (d_var 1) (dk_cons (d_var 2) (dk_nil))))) (dx_one (dx_if (dt_eq hr.units (d_var 0) (d_int)) (dx_one (dx_call (tk) (GX.lifted) hr (by rfl) (T.mgF .lifted) (T.kp .lifted) (T.bd .lifted) (da_cons (d_var 1) (da_cons (d_var 2) (da_cons (d_var 3) (da_nil)))))) (dx_one (dx_if (dt_eq hr.units (d_var 0) (d_int)) (dx_one (dx_call (tk) (GX.inlined) hr (by rfl) (T.mgF .inlined) (T.kp .inlined) (T.bd .inlined) (da_cons (d_var 1) (da_cons (d_var 2) (da_nil))))) (dx_one (dx_if (dt_eq hr.units (d_var 0) (d_int)) (dx_one (dx_call (tk) (GX.changed) hr (by rfl) (T.mgF .changed) (T.kp .changed) (T.bd .changed) (da_cons (d_var 1) (da_cons (d_var 2) (da_cons (d_var 3) (da_nil)))))) (dx_one (dx_if (dt_eq hr.units (d_var 0) (d_int)) (dx_one (dx_call (tk) (GX.grafted) hr (by rfl) (T.mgF .grafted) (T.kp .grafted) (T.bd .grafted) (da_cons (d_var 1) (da_cons (d_var 2) (da_cons (d_var 3) (da_nil)))))) (dx_one (dx_if (dt_eq hr.units (d_var 0) (d_int)) (dx_one (dx_call (tk) (GX.renamed) hr (by rfl) (T.mgF .renamed) (T.kp .renamed) (T.bd .renamed) (da_cons (d_var 1) (da_cons (d_var 3) (da_nil))))) (dx_one (dx_if (dt_eq hr.units (d_var 0) (d_int)) (dx_one (dx_call (tk) (GX.rooted) hr (by rfl) (T.mgF .rooted) (T.kp .rooted) (T.bd .rooted) (da_cons (d_var 1) (da_cons (d_var 3) (da_nil))))) (dx_one (dx_if (dt_eq hr.units (d_var 0) (d_int)) (dx_one (dx_call (tk) (GX.trimmed) hr (by rfl) (T.mgF .trimmed) (T.kp .trimmed) (T.bd .trimmed) (da_cons (d_var 1) (da_nil)))) (dx_one (dx_call (tk) (GX.unrolled) hr (by rfl) (T.mgF .unrolled) (T.kp .unrolled) (T.bd .unrolled) (da_cons (d_var 1) (da_cons (d_var 3) (da_nil))))))))))))))))))))))
  · obtain ⟨i, rfl, _⟩ := handOf_some h
    exact CT.exm i
  · obtain ⟨i, rfl, rfl⟩ := handOf_some h
    refine PSs.weak (pss_one (ps_set (i := 4) nd rfl (Or.inl rfl) (pe_op op_add_str (pe_op op_add_str (pe_op op_mul_str pe_str (pe_callTy call_int1 (by rfl) T.b_int (by decide +kernel) (pa_cons (pe_isE (i := 5) (CT.exc i) hz hf (CT.kit i .InvalidSheet) (by rfl) T.b_isinstance (by rfl) (by exact Or.inl rfl) (by decide) (by decide) (by rfl) (CT.ex1 .InvalidSheet).g (by decide)) pa_nil) (by decide +kernel) (by decide +kernel))) (pe_op op_mul_str pe_str (pe_callTy call_int1 (by rfl) T.b_int (by decide +kernel) (pa_cons (pe_isE (i := 5) (CT.exc i) hz hf (CT.kit i .InvalidPlace) (by rfl) T.b_isinstance (by rfl) (by exact Or.inl rfl) (by decide) (by decide) (by rfl) (CT.ex1 .InvalidPlace).g (by decide)) pa_nil) (by decide +kernel) (by decide +kernel)))) pe_str))) fun D σ H h => ?_
    obtain ⟨hs, μ, ε, m, o, re, ok, e, q⟩ := h
    cases e
    have fin : ∀ z : Str, z = heard i → gName 4 (.str z) σ H D.nx := fun z ez => by
      subst ez
      exact q μ _ H (Post.refl _ _) (re.set (.str _) 4) ok
    cases i with
    | InvalidSheet => exact ⟨hs, .inr ⟨true, rfl, _, _, rfl, rfl, ⟨by decide, by decide, by decide +kernel⟩, hs, .inr ⟨false, rfl, _, _, rfl, rfl, ⟨by decide, by decide, by decide +kernel⟩, _, _, rfl, rfl, by decide +kernel, _, _, rfl, rfl, by decide +kernel, fin _ (by decide +kernel)⟩⟩⟩
    | InvalidPlace => exact ⟨hs, .inr ⟨false, rfl, _, _, rfl, rfl, ⟨by decide, by decide, by decide +kernel⟩, hs, .inr ⟨true, rfl, _, _, rfl, rfl, ⟨by decide, by decide, by decide +kernel⟩, _, _, rfl, rfl, by decide +kernel, _, _, rfl, rfl, by decide +kernel, fin _ (by decide +kernel)⟩⟩⟩
end
end KK
end
section
set_option Elab.async false
set_option linter.all false
set_option maxRecDepth 100000
set_option maxHeartbeats 4000000
namespace KK
open PySem PySem.Spec PyProof.Rows L2 DL

section
variable {P : Program} {w : World} {K : PySem.W.Frag} {mg : Str → Option Value} {base : Heap} {ad : Fid → Addr} {fd : Fid → FuncData} {n : Nat} {c : Fid → FD}
variable {nlaw_bag nplaces : FDN}
theorem pure_ixV (i : Nat) (d : D) (ε : Ev) (m : M) (x : D) (m1 : M) (h : fBin ixG (fV i) (fC d) ε m = some (x, m1)) : m1 = m := by
  unfold fBin fV fC at h
  cases e : ε[i]?.bind id with
  | none => rw [e] at h; cases h
  | some v =>
    rw [e] at h
    simp only [Option.map_some, Option.bind_some] at h
    cases e2 : ixG v d m with
    | none => rw [e2] at h; cases h
    | some z => rw [e2] at h; cases h; rfl
def b0_is_term_within (c : Fid → FD) : FS :=
  sIf (fOrT (fT (fBin ltG (fV 1) (fC (.int 1)))) (fOrT (fNotT (fTru (fCall (c .is_tuple) (faCons (fV 0) (faNil))))) (fOrT (fT (fBin ltG (fApp lenG (f1 (fV 0))) (fC (.int 2)))) (fNotT (fTru (fCall (c .is_string) (faCons (fBin ixG (fV 0) (fC (.int 0))) (faNil)))))))) (sRet (fC (.bl false))) (sNx)
theorem ok2_is_term_within (T : Txt K mg ad fd) (FM : Forms K w mg ad) (G : Gs P w K mg base ad fd n c) : FnOk P w K mg base CX0 (n + 1) (ad .is_term_within) (fd .is_term_within) (ps .is_term_within) (spD (fnD 2 3 (sSeq (b0_is_term_within c) (formTail c)))) := by
  have nd := sc_is_term_within.nd
  exact ok_is_term_within T FM G _ (fun cdv A outer s H E hr =>
    ds_if (PW.pt (dw_or (dt_lt (d_var 1) (d_int)) (dw_or (dt_not (dt_tru (d_call (G .is_tuple) hr (by rfl) (T.mgF .is_tuple) (T.kp .is_tuple) (T.bd .is_tuple) (da_cons (d_var 0) (da_nil))))) (dw_or (dt_lt (d_len (by rfl) T.b_len (d_var 0)) (d_int)) (dw_or1 (dt_not (dt_tru (d_call (G .is_string) hr (by rfl) (T.mgF .is_string) (T.kp .is_string) (T.bd .is_string) (da_cons (d_item (d_var 0) (d_int)) (da_nil)))))))))) (ds_one (ds_ret (d_bl))) (ds_nil))
def b_places (c : Fid → FD) : FS :=
  sSeq (sExp (fCall (c .need_sheet) (faCons (fV 0) (faNil)))) (sRet (fLc2 (fItems (fBin ixG (fV 0) (fC (.int 1)))) (stT 2 (stsC (stN 1) (stsC (stN 2) (stsN)))) (fItems (fCall (c .paths_of) (faCons (fV 2) (faNil)))) (stN 3) (fTup (faCons (fV 1) (faCons (fV 3) (faNil)))) [1, 2, 3] [3]))
theorem ok_places (T : Txt K mg ad fd) (G : Gs P w K mg base ad fd n c) : FnOk P w K mg base CX0 (n + 1) (ad .places) (fd .places) (ps .places) (spD (fnD 1 4 (b_places c))) := by
  have nd := sc_places.nd
  exact d_fn (T.fn .places) sc_places (fun cdv A outer s H E hr =>
    ds_cons (ds_expr (d_call (G .need_sheet) hr (by rfl) (T.mgF .need_sheet) (T.kp .need_sheet) (T.bd .need_sheet) (da_cons (d_var 0) (da_nil))))
    (ds_one (ds_ret (d_lc2 (by rfl) (by exact nd) (di_seq (d_item (d_var 0) (d_int))) (blkOk_by (own := [((Str.ofString "name"), 1), ((Str.ofString "term"), 2), ((Str.ofString "path"), 3)]) (N := n_places) (sc := defScope s_places) (by decide +kernel)) (fun _ _ _ _ _ => pg_tup (by rfl) (pgs_cons (pg_name (i := 1) (by exact nd) (by rfl) (by exact Or.inl rfl)) (pgs_cons (pg_name (i := 2) (by exact nd) (by rfl) (by exact Or.inl rfl)) (pgs_nil)))) (g_tup (gs_cons (g_name) (gs_cons (g_name) (gs_nil)))) (fun _ _ _ _ _ => di_seq (d_call (G .paths_of) hr (by rfl) (T.mgF .paths_of) (T.kp .paths_of) (T.bd .paths_of) (da_cons (d_var 2) (da_nil)))) (fun _ _ _ _ _ => pg_name (i := 3) (by exact nd) (by rfl) (by exact Or.inl rfl)) (g_name) (fun _ _ _ _ _ => d_tup (da_cons (d_var 1) (da_cons (d_var 3) (da_nil))))))))
def b_need_sheet (c : Fid → FD) : FS :=
  sIf (fNotT (fTru (fCall (c .is_any_sheet) (faCons (fV 0) (faNil))))) (sNo) (sNx)
theorem ok_need_sheet (T : Txt K mg ad fd) (G : Gs P w K mg base ad fd n c) : FnOk P w K mg base CX0 (n + 1) (ad .need_sheet) (fd .need_sheet) (ps .need_sheet) (spD (fnD 1 1 (b_need_sheet c))) := by
  have nd := sc_need_sheet.nd
  exact d_fn (T.fn .need_sheet) sc_need_sheet (fun cdv A outer s H E hr =>
    ds_one (ds_if (dt_not (dt_tru (d_call (G .is_any_sheet) hr (by rfl) (T.mgF .is_any_sheet) (T.kp .is_any_sheet) (T.bd .is_any_sheet) (da_cons (d_var 0) (da_nil))))) (ds_one (ds_no)) (ds_nil)))
def b_need_place (c : Fid → FD) : FS :=
  sIf (fNotT (fTru (fCall (c .is_place_of) (faCons (fV 0) (faCons (fV 1) (faNil)))))) (sNo) (sNx)
theorem ok_need_place (T : Txt K mg ad fd) (G : Gs P w K mg base ad fd n c) : FnOk P w K mg base CX0 (n + 1) (ad .need_place) (fd .need_place) (ps .need_place) (spD (fnD 2 2 (b_need_place c))) := by
  have nd := sc_need_place.nd
  exact d_fn (T.fn .need_place) sc_need_place (fun cdv A outer s H E hr =>
    ds_one (ds_if (dt_not (dt_tru (d_call (G .is_place_of) hr (by rfl) (T.mgF .is_place_of) (T.kp .is_place_of) (T.bd .is_place_of) (da_cons (d_var 0) (da_cons (d_var 1) (da_nil)))))) (ds_one (ds_no)) (ds_nil)))
def b_part (c : Fid → FD) : FS :=
  sSeq (sExp (fCall (c .need_sheet) (faCons (fV 0) (faNil)))) (sSeq (sExp (fCall (c .need_place) (faCons (fV 0) (faCons (fV 1) (faNil))))) (sRet (fCall (c .term_at) (faCons (fCall (c .term_of_name) (faCons (fV 0) (faCons (fBin ixG (fV 1) (fC (.int 0))) (faNil)))) (faCons (fBin ixG (fV 1) (fC (.int 1))) (faNil))))))
theorem ok_part (T : Txt K mg ad fd) (G : Gs P w K mg base ad fd n c) : FnOk P w K mg base CX0 (n + 1) (ad .part) (fd .part) (ps .part) (spD (fnD 2 2 (b_part c))) := by
  have nd := sc_part.nd
  exact d_fn (T.fn .part) sc_part (fun cdv A outer s H E hr =>
    ds_cons (ds_expr (d_call (G .need_sheet) hr (by rfl) (T.mgF .need_sheet) (T.kp .need_sheet) (T.bd .need_sheet) (da_cons (d_var 0) (da_nil))))
    (ds_cons (ds_expr (d_call (G .need_place) hr (by rfl) (T.mgF .need_place) (T.kp .need_place) (T.bd .need_place) (da_cons (d_var 0) (da_cons (d_var 1) (da_nil)))))
    (ds_one (ds_ret (d_call (G .term_at) hr (by rfl) (T.mgF .term_at) (T.kp .term_at) (T.bd .term_at) (da_cons (d_call (G .term_of_name) hr (by rfl) (T.mgF .term_of_name) (T.kp .term_of_name) (T.bd .term_of_name) (da_cons (d_var 0) (da_cons (d_item (d_var 1) (d_int)) (da_nil)))) (da_cons (d_item (d_var 1) (d_int)) (da_nil))))))))
def bn_law_bag (c : Fid → FD) : FS :=
  sSeq (sSet 2 (fApp absG (f1 (fApp intG (f1 (fV 0)))))) (sSeq (sSet 3 (fBin addG (fBin modG (fApp intG (f1 (fV 2))) (fC (.int 2147483563))) (fC (.int 7)))) (sSeq (sSet 2 (fBin mulG (fV 2) (fApp intG (f1 (fBin geG (fV 2) (fBin powG (fC (.int 10)) (fC (.int 18)))))))) (sSeq (sOwn 4 (faNil)) (sSeq (sFor (fRng1 (fV 1)) (stN 5) (sSeq (sSet 3 (fBin modG (fApp intG (f1 (fBin addG (fBin addG (fBin mulG (fV 3) (fC (.int 40014))) (fBin mulG (fBin mulG (fV 5) (fV 5)) (fC (.int 53)))) (fC (.int 11))))) (fC (.int 2147483563)))) (sIf (fT (fBin gtG (fV 2) (fC (.int 0)))) (sSeq (sExp (fApnd (fV 4) (fBin modG (fApp intG (f1 (fV 2))) (fC (.int 30030))))) (sSet 2 (fBin fdivG (fV 2) (fC (.int 30030))))) (sExp (fApnd (fV 4) (fBin modG (fBin fdivG (fBin modG (fApp intG (f1 (fBin mulG (fV 3) (fBin addG (fBin fdivG (fV 3) (fC (.int 32))) (fC (.int 1)))))) (fC (.int 2147483399))) (fC (.int 7))) (fC (.int 30030)))))))) (sRetN (fRevN (fV 4)))))))
theorem okn_law_bag (T : Txt K mg ad fd) (G : Gs P w K mg base ad fd n c) : FnOk P w K mg base CX0 (n + 1) (ad .law_bag) (fd .law_bag) (ps .law_bag) (spN (fnN 2 6 (bn_law_bag c))) := by
  have nd := sc_law_bag.nd
  exact d_fnN (T.fn .law_bag) sc_law_bag (fun cdv A outer s H E hr =>
    ds_cons (ds_set (i := 2) nd rfl (Or.inl rfl) (d_abs (by rfl) T.b_abs (d_intC (by rfl) T.b_int (d_var 0))))
    (ds_cons (ds_set (i := 3) nd rfl (Or.inl rfl) (d_add (d_mod (d_intC (by rfl) T.b_int (d_var 2)) (d_int)) (d_int)))
    (ds_cons (ds_set (i := 2) nd rfl (Or.inl rfl) (d_mul (d_var 2) (d_intC (by rfl) T.b_int (d_ge (d_var 2) (d_pow (d_int) (d_int))))))
    (ds_cons (ds_own (i := 4) nd rfl (Or.inl rfl) (da_nil))
    (ds_cons (ds_for PassesOwn.never rfl (di_range1 (by rfl) T.b_range (d_var 1)) (pg_name (i := 5) (by exact nd) (by rfl) (by exact Or.inl rfl)) (g_name) (ds_cons (ds_set (i := 3) nd rfl (Or.inl rfl) (d_mod (d_intC (by rfl) T.b_int (d_add (d_add (d_mul (d_var 3) (d_int)) (d_mul (d_mul (d_var 5) (d_var 5)) (d_int))) (d_int))) (d_int)))
    (ds_one (ds_if (dt_gt (d_var 2) (d_int)) (ds_cons (ds_expr (d_append (d_var 4) (d_mod (d_intC (by rfl) T.b_int (d_var 2)) (d_int))))
    (ds_one (ds_set (i := 2) nd rfl (Or.inl rfl) (d_fdiv (d_var 2) (d_int))))) (ds_one (ds_expr (d_append (d_var 4) (d_mod (d_fdiv (d_mod (d_intC (by rfl) T.b_int (d_mul (d_var 3) (d_add (d_fdiv (d_var 3) (d_int)) (d_int)))) (d_int)) (d_int)) (d_int)))))))))
    (ds_one (ds_retN (dn_rev (d_var 4)))))))))
def bn_places (c : Fid → FD) : FS :=
  sSeq (sExp (fCall (c .need_sheet) (faCons (fV 0) (faNil)))) (sRetN (fLc2N (fItems (fBin ixG (fV 0) (fC (.int 1)))) (stT 2 (stsC (stN 1) (stsC (stN 2) (stsN)))) (fItems (fCall (c .paths_of) (faCons (fV 2) (faNil)))) (stN 3) (fTup (faCons (fV 1) (faCons (fV 3) (faNil)))) [1, 2, 3] [3]))
theorem okn_places (T : Txt K mg ad fd) (G : Gs P w K mg base ad fd n c) : FnOk P w K mg base CX0 (n + 1) (ad .places) (fd .places) (ps .places) (spN (fnN 1 4 (bn_places c))) := by
  have nd := sc_places.nd
  exact d_fnN (T.fn .places) sc_places (fun cdv A outer s H E hr =>
    ds_cons (ds_expr (d_call (G .need_sheet) hr (by rfl) (T.mgF .need_sheet) (T.kp .need_sheet) (T.bd .need_sheet) (da_cons (d_var 0) (da_nil))))
    (ds_one (ds_retN (dn_lc2 (by rfl) (by exact nd) (di_seq (d_item (d_var 0) (d_int))) (blkOk_by (own := [((Str.ofString "name"), 1), ((Str.ofString "term"), 2), ((Str.ofString "path"), 3)]) (N := n_places) (sc := defScope s_places) (by decide +kernel)) (fun _ _ _ _ _ => pg_tup (by rfl) (pgs_cons (pg_name (i := 1) (by exact nd) (by rfl) (by exact Or.inl rfl)) (pgs_cons (pg_name (i := 2) (by exact nd) (by rfl) (by exact Or.inl rfl)) (pgs_nil)))) (g_tup (gs_cons (g_name) (gs_cons (g_name) (gs_nil)))) (fun _ _ _ _ _ => di_seq (d_call (G .paths_of) hr (by rfl) (T.mgF .paths_of) (T.kp .paths_of) (T.bd .paths_of) (da_cons (d_var 2) (da_nil)))) (fun _ _ _ _ _ => pg_name (i := 3) (by exact nd) (by rfl) (by exact Or.inl rfl)) (g_name) (fun _ _ _ _ _ => d_tup (da_cons (d_var 1) (da_cons (d_var 3) (da_nil))))))))
structure GNs (P : Program) (w : World) (K : PySem.W.Frag) (mg : Str → Option Value) (base : Heap) (ad : Fid → Addr) (fd : Fid → FuncData) (n : Nat) (nlaw_bag nplaces : FDN) : Prop where
  law_bag : FnOk P w K mg base CX0 n (ad .law_bag) (fd .law_bag) (ps .law_bag) (spN nlaw_bag)
  places : FnOk P w K mg base CX0 n (ad .places) (fd .places) (ps .places) (spN nplaces)
  law_known : FnOk P w K mg base CX0 n (ad .law_known) (fd .law_known) (ps .law_known) (spK knownG)
def b_law_spots (c : Fid → FD) (nplaces : FDN) : FS :=
  sSeq (sOwnN 3 (fCallN nplaces (faCons (fV 1) (faNil)))) (sSeq (sIf (fNotT (fTru (fCall (c .law_same) (faCons (fV 3) (faCons (fV 2) (faNil)))))) (sRet (fC (.bl false))) (sNx)) (sSeq (sExp (fApnd (fV 3) (fTup (faCons (fC (.str (Str.ofString "zz"))) (faCons (fTup (faNil)) (faNil)))))) (sSeq (sIf (fNotT (fTru (fCall (c .law_same) (faCons (fCall (c .places) (faCons (fV 1) (faNil))) (faCons (fV 2) (faNil)))))) (sRet (fC (.bl false))) (sNx)) (sSeq (sFor (fStepN (fV 2) (fCall (c .law_take) (faCons (fV 0) (faCons (fC (.int 2)) (faNil)))) 2) (stN 4) (sIf (fNotT (fTru (fCall (c .law_same) (faCons (fCall (c .part) (faCons (fV 1) (faCons (fV 4) (faNil)))) (faCons (fCall (c .law_at) (faCons (fKGet knownG (faCons (fV 1) (faNil)) (fBin ixG (fV 4) (fC (.int 0)))) (faCons (fBin ixG (fV 4) (fC (.int 1))) (faNil)))) (faNil)))))) (sRet (fC (.bl false))) (sNx))) (sSeq (sFor (fRng1 (fC (.int 10))) (stN 5) (sSeq (sSet 6 (fBin ixG (fLst (faCons (fC .non) (faCons (fC (.int 5)) (faCons (fC (.str (Str.ofString "A"))) (faCons (fUn negG (fC (.int 1))) (faCons (fTup (faNil)) (faNil))))))) (fCall (c .law_take) (faCons (fV 0) (faCons (fC (.int 5)) (faNil)))))) (sSeq (sIf (fT (fBin neG (fCall (c .law_asked) (faCons (fV 5) (faCons (fCall (c .law_around) (faCons (fV 0) (faCons (fV 1) (faNil)))) (faCons (fBin ixG (fLst (faCons (fBin ixG (fV 2) (fC (.int 0))) (faCons (fC .non) (faNil)))) (fCall (c .law_take) (faCons (fV 0) (faCons (fC (.int 2)) (faNil))))) (faCons (fV 6) (faNil)))))) (fC (.str (Str.ofString "sheet."))))) (sRet (fC (.bl false))) (sNx)) (sIf (fAndT (fT (fChain ltG ltG (fC (.int 0)) (fV 5) (fC (.int 6)))) (fT (fBin neG (fCall (c .law_asked) (faCons (fV 5) (faCons (fV 1) (faCons (fCall (c .law_bent) (faCons (fV 0) (faCons (fV 1) (faCons (fV 2) (faNil))))) (faCons (fV 6) (faNil)))))) (fC (.str (Str.ofString "place.")))))) (sRet (fC (.bl false))) (sNx))))) (sRet (fBin eqG (fCall (c .law_asked) (faCons (fC (.int 5)) (faCons (fV 1) (faCons (fBin ixG (fV 2) (fC (.int 0))) (faCons (fCall (c .law_around) (faCons (fV 0) (faCons (fV 1) (faNil)))) (faNil)))))) (fC (.str (Str.ofString "sheet."))))))))))
theorem ok_law_spots (T : Txt K mg ad fd) (KB : KBs fd) (G : Gs P w K mg base ad fd n c) (GN : GNs P w K mg base ad fd n nlaw_bag nplaces) : FnOk P w K mg base CX0 (n + 1) (ad .law_spots) (fd .law_spots) (ps .law_spots) (spD (fnD 3 7 (b_law_spots c nplaces))) := by
  have nd := sc_law_spots.nd
  exact d_fn (T.fn .law_spots) sc_law_spots (fun cdv A outer s H E hr =>
    ds_cons (ds_ownN (i := 3) nd rfl (Or.inl rfl) (dn_call (GN.places) hr (by rfl) (T.mgF .places) (T.kp .places) (T.bd .places) (da_cons (d_var 1) (da_nil))))
    (ds_cons (ds_if (dt_not (dt_tru (d_call (G .law_same) hr (by rfl) (T.mgF .law_same) (T.kp .law_same) (T.bd .law_same) (da_cons (d_var 3) (da_cons (d_var 2) (da_nil)))))) (ds_one (ds_ret (d_bl))) (ds_nil))
    (ds_cons (ds_expr (d_append (d_var 3) (d_tup (da_cons (d_str) (da_cons (d_tup (da_nil)) (da_nil))))))
    (ds_cons (ds_if (dt_not (dt_tru (d_call (G .law_same) hr (by rfl) (T.mgF .law_same) (T.kp .law_same) (T.bd .law_same) (da_cons (d_call (G .places) hr (by rfl) (T.mgF .places) (T.kp .places) (T.bd .places) (da_cons (d_var 1) (da_nil))) (da_cons (d_var 2) (da_nil)))))) (ds_one (ds_ret (d_bl))) (ds_nil))
    (ds_cons (ds_for PassesOwn.never rfl (di_new (dn_step (by decide) (d_var 2) (d_call (G .law_take) hr (by rfl) (T.mgF .law_take) (T.kp .law_take) (T.bd .law_take) (da_cons (d_var 0) (da_cons (d_int) (da_nil)))))) (pg_name (i := 4) (by exact nd) (by rfl) (by exact Or.inl rfl)) (g_name) (ds_one (ds_if (dt_not (dt_tru (d_call (G .law_same) hr (by rfl) (T.mgF .law_same) (T.kp .law_same) (T.bd .law_same) (da_cons (d_call (G .part) hr (by rfl) (T.mgF .part) (T.kp .part) (T.bd .part) (da_cons (d_var 1) (da_cons (d_var 4) (da_nil)))) (da_cons (d_call (G .law_at) hr (by rfl) (T.mgF .law_at) (T.kp .law_at) (T.bd .law_at) (da_cons (d_kget (hu_of hr) (GN.law_known) hr (by rfl) (T.mgF .law_known) (T.kp .law_known) (T.bd .law_known) (da_cons (d_var 1) (da_nil)) (d_item (d_var 4) (d_int)) (fun _ _ => rfl) (pure_ixV _ _)) (da_cons (d_item (d_var 4) (d_int)) (da_nil)))) (da_nil)))))) (ds_one (ds_ret (d_bl))) (ds_nil))))
    (ds_cons (ds_for PassesOwn.never rfl (di_range1 (by rfl) T.b_range (d_int)) (pg_name (i := 5) (by exact nd) (by rfl) (by exact Or.inl rfl)) (g_name) (ds_cons (ds_set (i := 6) nd rfl (Or.inl rfl) (d_item (d_lst (da_cons (d_non) (da_cons (d_int) (da_cons (d_str) (da_cons (d_neg (d_int)) (da_cons (d_tup (da_nil)) (da_nil))))))) (d_call (G .law_take) hr (by rfl) (T.mgF .law_take) (T.kp .law_take) (T.bd .law_take) (da_cons (d_var 0) (da_cons (d_int) (da_nil))))))
    (ds_cons (ds_if (dt_ne hr.units (d_call (G .law_asked) hr (by rfl) (T.mgF .law_asked) (T.kp .law_asked) (T.bd .law_asked) (da_cons (d_var 5) (da_cons (d_call (G .law_around) hr (by rfl) (T.mgF .law_around) (T.kp .law_around) (T.bd .law_around) (da_cons (d_var 0) (da_cons (d_var 1) (da_nil)))) (da_cons (d_item (d_lst (da_cons (d_item (d_var 2) (d_int)) (da_cons (d_non) (da_nil)))) (d_call (G .law_take) hr (by rfl) (T.mgF .law_take) (T.kp .law_take) (T.bd .law_take) (da_cons (d_var 0) (da_cons (d_int) (da_nil))))) (da_cons (d_var 6) (da_nil)))))) (d_str)) (ds_one (ds_ret (d_bl))) (ds_nil))
    (ds_one (ds_if (PW.pt (dw_and (dt_chain op_ltD fits_lt op_ltD fits_lt (d_int) (d_var 5) (d_int)) (dw_and1 (dt_ne hr.units (d_call (G .law_asked) hr (by rfl) (T.mgF .law_asked) (T.kp .law_asked) (T.bd .law_asked) (da_cons (d_var 5) (da_cons (d_var 1) (da_cons (d_call (G .law_bent) hr (by rfl) (T.mgF .law_bent) (T.kp .law_bent) (T.bd .law_bent) (da_cons (d_var 0) (da_cons (d_var 1) (da_cons (d_var 2) (da_nil))))) (da_cons (d_var 6) (da_nil)))))) (d_str))))) (ds_one (ds_ret (d_bl))) (ds_nil))))))
    (ds_one (ds_ret (d_eq hr.units (d_call (G .law_asked) hr (by rfl) (T.mgF .law_asked) (T.kp .law_asked) (T.bd .law_asked) (da_cons (d_int) (da_cons (d_var 1) (da_cons (d_item (d_var 2) (d_int)) (da_cons (d_call (G .law_around) hr (by rfl) (T.mgF .law_around) (T.kp .law_around) (T.bd .law_around) (da_cons (d_var 0) (da_cons (d_var 1) (da_nil)))) (da_nil)))))) (d_str))))))))))
def b_law (c : Fid → FD) (nlaw_bag : FDN) : FS :=
  sSeq (sSet 1 (fTup (faCons (fC (.str (Str.ofString "w"))) (faCons (fTup (faCons (fTup (faCons (fC (.str (Str.ofString "w"))) (faCons (fTup (faCons (fC (.str (Str.ofString "row"))) (faCons (fBin mulG (fTup (faCons (fTup (faCons (fC (.str (Str.ofString "times"))) (faCons (fC (.int 1)) (faCons (fTup (faCons (fC (.str (Str.ofString "bits"))) (faCons (fC (.str (Str.ofString "1"))) (faNil)))) (faNil))))) (faNil))) (fC (.int 34))) (faNil)))) (faNil)))) (faNil))) (faNil))))) (sSeq (sIf (fNotT (fTru (fCall (c .law_same) (faCons (fCall (c .places) (faCons (fV 1) (faNil))) (faCons (fCall (c .law_places) (faCons (fV 1) (faNil))) (faNil)))))) (sRet (fC (.bl false))) (sNx)) (sSeq (sFor (fItems (fSl (fBin addG (fV 0) (fLst (faCons (fC (.int 0)) (faNil)))) (foN) (foS (fC (.int 3))))) (stN 2) (sSeq (sOwnN 3 (fCallN nlaw_bag (faCons (fV 2) (faCons (fC (.int 160)) (faNil))))) (sSeq (sSet 4 (fCall (c .law_loose_sheet) (faCons (fV 3) (faNil)))) (sSeq (sSet 5 (fCall (c .law_places) (faCons (fV 4) (faNil)))) (sSeq (sSet 6 (fBin ixG (fV 5) (fCall (c .law_take) (faCons (fV 3) (faCons (fApp lenG (f1 (fV 5))) (faNil)))))) (sSeq (sIf (fOrT (fT (fBin isNotG (fCall (c .is_sheet) (faCons (fV 4) (faNil))) (fC (.bl true)))) (fT (fBin isNotG (fCall (c .is_sheet) (faCons (fCall (c .law_around) (faCons (fV 3) (faCons (fV 4) (faNil)))) (faNil))) (fC (.bl false))))) (sRet (fC (.bl false))) (sNx)) (sSeq (sIf (fOrT (fT (fBin isNotG (fCall (c .is_term) (faCons (fCall (c .law_at) (faCons (fKGet knownG (faCons (fV 4) (faNil)) (fBin ixG (fV 6) (fC (.int 0)))) (faCons (fBin ixG (fV 6) (fC (.int 1))) (faNil)))) (faNil))) (fC (.bl true)))) (fNotT (fTru (fCall (c .law_spots) (faCons (fV 3) (faCons (fV 4) (faCons (fV 5) (faNil)))))))) (sRet (fC (.bl false))) (sNx)) (sSeq (sSet 7 (fCall (c .law_wrong) (faCons (fV 3) (faNil)))) (sSeq (sIf (fOrT (fT (fBin isNotG (fCall (c .is_term) (faCons (fV 7) (faNil))) (fC (.bl false)))) (fT (fBin isNotG (fCall (c .is_sheet) (faCons (fCall (c .law_laid) (faCons (fV 4) (faCons (fV 6) (faCons (fV 7) (faNil))))) (faNil))) (fC (.bl false))))) (sRet (fC (.bl false))) (sNx)) (sSeq (sSet 8 (fCall (c .law_right) (faCons (fV 3) (faNil)))) (sSeq (sIf (fOrT (fT (fBin isNotG (fCall (c .is_term) (faCons (fV 8) (faNil))) (fC (.bl true)))) (fT (fBin isNotG (fCall (c .is_sheet) (faCons (fCall (c .law_laid) (faCons (fV 4) (faCons (fTup (faCons (fBin ixG (fV 6) (fC (.int 0))) (faCons (fTup (faNil)) (faNil)))) (faCons (fV 8) (faNil))))) (faNil))) (fC (.bl true))))) (sRet (fC (.bl false))) (sNx)) (sSeq (sSet 9 (fTup (faCons (fC (.str (Str.ofString "ref"))) (faCons (fBin addG (fC (.str (Str.ofString "zz"))) (fBin ixG (fC (.str (Str.ofString "abc"))) (fCall (c .law_take) (faCons (fV 3) (faCons (fC (.int 3)) (faNil)))))) (faNil))))) (sSeq (sIf (fOrT (fT (fBin isNotG (fCall (c .is_term) (faCons (fV 9) (faNil))) (fC (.bl true)))) (fT (fBin isNotG (fCall (c .is_sheet) (faCons (fCall (c .law_laid) (faCons (fV 4) (faCons (fV 6) (faCons (fV 9) (faNil))))) (faNil))) (fC (.bl false))))) (sRet (fC (.bl false))) (sNx)) (sIf (fOrT (fT (fBin isNotG (fCall (c .is_sheet) (faCons (fV 4) (faNil))) (fC (.bl true)))) (fT (fBin isNotG (fCall (c .is_term) (faCons (fV 7) (faNil))) (fC (.bl false))))) (sRet (fC (.bl false))) (sNx))))))))))))))) (sRet (fC (.bl true)))))
theorem ok_law (T : Txt K mg ad fd) (KB : KBs fd) (G : Gs P w K mg base ad fd n c) (GN : GNs P w K mg base ad fd n nlaw_bag nplaces) : FnOk P w K mg base CX0 (n + 1) (ad .law) (fd .law) (ps .law) (spD (fnD 1 10 (b_law c nlaw_bag))) := by
  have nd := sc_law.nd
  exact d_fn (T.fn .law) sc_law (fun cdv A outer s H E hr =>
    ds_cons (ds_set (i := 1) nd rfl (Or.inl rfl) (d_tup (da_cons (d_str) (da_cons (d_tup (da_cons (d_tup (da_cons (d_str) (da_cons (d_tup (da_cons (d_str) (da_cons (d_mul (d_tup (da_cons (d_tup (da_cons (d_str) (da_cons (d_int) (da_cons (d_tup (da_cons (d_str) (da_cons (d_str) (da_nil)))) (da_nil))))) (da_nil))) (d_int)) (da_nil)))) (da_nil)))) (da_nil))) (da_nil)))))
    (ds_cons (ds_if (dt_not (dt_tru (d_call (G .law_same) hr (by rfl) (T.mgF .law_same) (T.kp .law_same) (T.bd .law_same) (da_cons (d_call (G .places) hr (by rfl) (T.mgF .places) (T.kp .places) (T.bd .places) (da_cons (d_var 1) (da_nil))) (da_cons (d_call (G .law_places) hr (by rfl) (T.mgF .law_places) (T.kp .law_places) (T.bd .law_places) (da_cons (d_var 1) (da_nil))) (da_nil)))))) (ds_one (ds_ret (d_bl))) (ds_nil))
    (ds_cons (ds_for PassesOwn.never rfl (di_seq (d_slice (d_add (d_var 0) (d_lst (da_cons (d_int) (da_nil)))) (do_n) (do_s (d_int)))) (pg_name (i := 2) (by exact nd) (by rfl) (by exact Or.inl rfl)) (g_name) (ds_cons (ds_ownN (i := 3) nd rfl (Or.inl rfl) (dn_call (GN.law_bag) hr (by rfl) (T.mgF .law_bag) (T.kp .law_bag) (T.bd .law_bag) (da_cons (d_var 2) (da_cons (d_int) (da_nil)))))
    (ds_cons (ds_set (i := 4) nd rfl (Or.inl rfl) (d_call (G .law_loose_sheet) hr (by rfl) (T.mgF .law_loose_sheet) (T.kp .law_loose_sheet) (T.bd .law_loose_sheet) (da_cons (d_var 3) (da_nil))))
    (ds_cons (ds_set (i := 5) nd rfl (Or.inl rfl) (d_call (G .law_places) hr (by rfl) (T.mgF .law_places) (T.kp .law_places) (T.bd .law_places) (da_cons (d_var 4) (da_nil))))
    (ds_cons (ds_set (i := 6) nd rfl (Or.inl rfl) (d_item (d_var 5) (d_call (G .law_take) hr (by rfl) (T.mgF .law_take) (T.kp .law_take) (T.bd .law_take) (da_cons (d_var 3) (da_cons (d_len (by rfl) T.b_len (d_var 5)) (da_nil))))))
    (ds_cons (ds_if (PW.pt (dw_or (dt_isNot (d_callK (G .is_sheet) hr (by rfl) (T.mgF .is_sheet) (T.kp .is_sheet) (KB.is_sheet) (dk_cons (d_var 4) (dk_nil))) (d_bl)) (dw_or1 (dt_isNot (d_call (G .is_sheet) hr (by rfl) (T.mgF .is_sheet) (T.kp .is_sheet) (T.bd .is_sheet) (da_cons (d_call (G .law_around) hr (by rfl) (T.mgF .law_around) (T.kp .law_around) (T.bd .law_around) (da_cons (d_var 3) (da_cons (d_var 4) (da_nil)))) (da_nil))) (d_bl))))) (ds_one (ds_ret (d_bl))) (ds_nil))
    (ds_cons (ds_if (PW.pt (dw_or (dt_isNot (d_call (G .is_term) hr (by rfl) (T.mgF .is_term) (T.kp .is_term) (T.bd .is_term) (da_cons (d_call (G .law_at) hr (by rfl) (T.mgF .law_at) (T.kp .law_at) (T.bd .law_at) (da_cons (d_kget (hu_of hr) (GN.law_known) hr (by rfl) (T.mgF .law_known) (T.kp .law_known) (T.bd .law_known) (da_cons (d_var 4) (da_nil)) (d_item (d_var 6) (d_int)) (fun _ _ => rfl) (pure_ixV _ _)) (da_cons (d_item (d_var 6) (d_int)) (da_nil)))) (da_nil))) (d_bl)) (dw_or1 (dt_not (dt_tru (d_call (G .law_spots) hr (by rfl) (T.mgF .law_spots) (T.kp .law_spots) (T.bd .law_spots) (da_cons (d_var 3) (da_cons (d_var 4) (da_cons (d_var 5) (da_nil)))))))))) (ds_one (ds_ret (d_bl))) (ds_nil))
    (ds_cons (ds_set (i := 7) nd rfl (Or.inl rfl) (d_call (G .law_wrong) hr (by rfl) (T.mgF .law_wrong) (T.kp .law_wrong) (T.bd .law_wrong) (da_cons (d_var 3) (da_nil))))
    (ds_cons (ds_if (PW.pt (dw_or (dt_isNot (d_callK (G .is_term) hr (by rfl) (T.mgF .is_term) (T.kp .is_term) (KB.is_term) (dk_cons (d_var 7) (dk_nil))) (d_bl)) (dw_or1 (dt_isNot (d_call (G .is_sheet) hr (by rfl) (T.mgF .is_sheet) (T.kp .is_sheet) (T.bd .is_sheet) (da_cons (d_call (G .law_laid) hr (by rfl) (T.mgF .law_laid) (T.kp .law_laid) (T.bd .law_laid) (da_cons (d_var 4) (da_cons (d_var 6) (da_cons (d_var 7) (da_nil))))) (da_nil))) (d_bl))))) (ds_one (ds_ret (d_bl))) (ds_nil))
    (ds_cons (ds_set (i := 8) nd rfl (Or.inl rfl) (d_call (G .law_right) hr (by rfl) (T.mgF .law_right) (T.kp .law_right) (T.bd .law_right) (da_cons (d_var 3) (da_nil))))
    (ds_cons (ds_if (PW.pt (dw_or (dt_isNot (d_call (G .is_term) hr (by rfl) (T.mgF .is_term) (T.kp .is_term) (T.bd .is_term) (da_cons (d_var 8) (da_nil))) (d_bl)) (dw_or1 (dt_isNot (d_call (G .is_sheet) hr (by rfl) (T.mgF .is_sheet) (T.kp .is_sheet) (T.bd .is_sheet) (da_cons (d_call (G .law_laid) hr (by rfl) (T.mgF .law_laid) (T.kp .law_laid) (T.bd .law_laid) (da_cons (d_var 4) (da_cons (d_tup (da_cons (d_item (d_var 6) (d_int)) (da_cons (d_tup (da_nil)) (da_nil)))) (da_cons (d_var 8) (da_nil))))) (da_nil))) (d_bl))))) (ds_one (ds_ret (d_bl))) (ds_nil))
    (ds_cons (ds_set (i := 9) nd rfl (Or.inl rfl) (d_tup (da_cons (d_str) (da_cons (d_add (d_str) (d_item (d_str) (d_call (G .law_take) hr (by rfl) (T.mgF .law_take) (T.kp .law_take) (T.bd .law_take) (da_cons (d_var 3) (da_cons (d_int) (da_nil)))))) (da_nil)))))
    (ds_cons (ds_if (PW.pt (dw_or (dt_isNot (d_call (G .is_term) hr (by rfl) (T.mgF .is_term) (T.kp .is_term) (T.bd .is_term) (da_cons (d_var 9) (da_nil))) (d_bl)) (dw_or1 (dt_isNot (d_call (G .is_sheet) hr (by rfl) (T.mgF .is_sheet) (T.kp .is_sheet) (T.bd .is_sheet) (da_cons (d_call (G .law_laid) hr (by rfl) (T.mgF .law_laid) (T.kp .law_laid) (T.bd .law_laid) (da_cons (d_var 4) (da_cons (d_var 6) (da_cons (d_var 9) (da_nil))))) (da_nil))) (d_bl))))) (ds_one (ds_ret (d_bl))) (ds_nil))
    (ds_one (ds_if (PW.pt (dw_or (dt_isNot (d_call (G .is_sheet) hr (by rfl) (T.mgF .is_sheet) (T.kp .is_sheet) (T.bd .is_sheet) (da_cons (d_var 4) (da_nil))) (d_bl)) (dw_or1 (dt_isNot (d_call (G .is_term) hr (by rfl) (T.mgF .is_term) (T.kp .is_term) (T.bd .is_term) (da_cons (d_var 7) (da_nil))) (d_bl))))) (ds_one (ds_ret (d_bl))) (ds_nil))))))))))))))))
    (ds_one (ds_ret (d_bl))))))
end
end KK
end
section
set_option Elab.async false
set_option linter.all false
set_option maxRecDepth 100000
namespace DL
open PySem PySem.Spec PyProof.Rows L2
/-! ### (script + [0])[:3], script known to the object -/
def rCatL (K : PySem.W.Frag) : R2 := fun x y H Q => ∃ l b xs zs, x = .ref l ∧ y = .ref b ∧ SqL K H l xs ∧ SqL K H b zs ∧ xs.length + zs.length ≤ sizeLine ∧ ∀ p, H p = none → Q (.ref p) (upd H p (.lst (xs ++ zs)))
section
variable {X : Cx}
theorem op_catL : OpR X (binaryOp .Add) (rCatL X.K) := by
  intro pins s σ H x y v u Q I rx ry h
  obtain ⟨l, b, xs, zs, rfl, rfl, hH, hB, hz, q⟩ := h
  cases rx
  cases ry
  obtain ⟨its, r, ⟨⟨c1, d1, da1, sl1⟩, n1, e1, hc1, hd1, hda1⟩, _⟩ := I.list hH
  obtain ⟨its2, r2, ⟨⟨c2, d2, da2, sl2⟩, n2, e2, hc2, hd2, hda2⟩, _⟩ := I.list hB
  simp only at hc1 hd1 hda1 hc2 hd2 hda2
  subst hc1 hd1 hda1 hc2 hd2 hda2
  have l1 := r.length
  have l2 := r2.length
  refine concat_meets ⟨_, e1, rfl⟩ ⟨_, e2, rfl⟩ noFill_list_add seq_list_add PySem.F.slot_list_add PySem.F.entry_list_add (PySem.F.args_list_add_2 _ _) (list_addW l b its.toArray its2.toArray n1 n2 none none sl1 sl2 (by rw [List.size_toArray, List.size_toArray]; omega)) ⟨e1, e2, ?_⟩
  have ea : its.toArray ++ its2.toArray = (its ++ its2).toArray := by simp
  rw [ea]
  exact ⟨.ref _, _, I.lnew (t' := s.toks) (r.append r2) (by rw [List.length_append]; omega), rfl, q _ I.fresh⟩
def cells (ns : List Int) : List D := cutD (ns.map D.int ++ [.int 0]) none (some 3)
theorem reps_ints {μ : Mu} {H : Hp} : ∀ ns : List Int, Reps μ H (ns.map V.int) (ns.map D.int)
  | [] => .nil
  | n :: r => .cons (.int n) (reps_ints r)
def tScript (K : PySem.W.Frag) : TI := fun σ H R => ∃ a ns μ m, σ[0]? = some (some (.ref a)) ∧ SqL K H a (ns.map V.int) ∧ ns.length ≤ 63 ∧ MOk μ H m ∧ ∀ J H', Post μ H μ H' → MOk μ H' m → DWalk μ H' J (cells ns) → R J H'
theorem di_script {x : Str} {p1 p2 p3 p4 p5 p6 p7 : Pos} {k1 k2 : Nat} {tg : Expr} (hN : X.N[0]? = some x) (hv : Vis X.env.scope x) (hd : (x == ("__debug__" : Str)) = false) (hcd : (x == ("__classdict__" : Str)) = false) :
    PI X tg (.Subscript (.BinOp (.Name x p1) .Add (.List [.Constant (.int 0) k1 p2] p3) p4) (.Slice none (some (.Constant (.int 3) k2 p5)) none p6) p7) (tScript X.K) := by
  refine ⟨fun pins s σ H R I ⟨a, ns, μ, m, hs, hq, hl, ok, q⟩ => ?_⟩
  refine (pi_list (pe_slice sl_list (pe_op op_catL (pe_var (i := 0) hN hv hd hcd) (pe_lst (pa_cons pe_int pa_nil))) po_none (po_some pe_int))).run pins s σ H R I ?_
  refine ⟨.ref a, hs, (by show 1 ≤ sizeLine; decide), fun z hz => ?_⟩
  have hq2 : SqL X.K (upd H z (.lst [V.int 0])) a (ns.map V.int) := by
    rcases hq with (e | ⟨o, e⟩) | hk
    · exact .inl (.inl (by rw [upd_ne (ne_of_none e hz)]; exact e))
    · exact .inl (.inr ⟨o, by rw [upd_ne (ne_of_none e hz)]; exact e⟩)
    · exact .inr hk
  have hlz : (ns.map V.int).length + [V.int 0].length ≤ sizeLine := by
    have h64 : (64 : Nat) ≤ sizeLine := by decide
    rw [List.length_map]
    show ns.length + 1 ≤ sizeLine
    omega
  refine ⟨a, z, ns.map V.int, [V.int 0], rfl, rfl, hq2, SqL.of upd_same, hlz, fun p hp => ?_⟩
  refine ⟨3, rfl, p, ns.map V.int ++ [V.int 0], rfl, SqL.of upd_same, fun b hb => ?_⟩
  have ok1 := ok.new hz (.lst [V.int 0])
  have ok2 := ok1.new hp (.lst (ns.map V.int ++ [V.int 0]))
  have ok3 := ok2.new hb (.lst (cutV (ns.map V.int ++ [V.int 0]) none (some 3)))
  have po := ((post_new (μ := μ) hz (.lst [V.int 0])).trans (post_new hp (.lst (ns.map V.int ++ [V.int 0])))).trans (post_new hb (.lst (cutV (ns.map V.int ++ [V.int 0]) none (some 3))))
  refine ⟨b, rfl, ⟨_, SqL.of upd_same⟩, q _ _ po ok3 (dwalk_lst upd_same (ok2.free hb) ?_)⟩
  exact Reps.cut ((reps_ints ns).append (.cons (.int 0) .nil)) none (some 3)
theorem ds_forS {iter tg : Expr} {body : List Stmt} {pos : Pos} {f : FS} {gt : TG} {st : StD} {is : List Nat} (hp : PassesOwn (model X.prog X.w) X.A X.env X.xe) (hc : X.calm = true) (hi : PI X tg iter (tScript X.K)) (hg : PG X tg gt) (hgf : GFits gt st is) (hb : PSs X body (tDS f))
    (hs : ∀ x, foldedSetIterable iter X.env x = pure x := by intro _; rfl) : PS X (.For tg iter body [] pos) (fun D σ H => ∃ a ns μ ε m o, σ[0]? = some (some (.ref a)) ∧ SqL X.K H a (ns.map V.int) ∧ ns.length ≤ 63 ∧ REnv μ H σ ε ∧ MOk μ H m ∧ loopD st f (cells ns) ε m = some o ∧ Fin D μ H o) := by
  refine PS.weak (ps_for hp hc hi hg hb hs) fun D σ H ⟨a, ns, μ, ε, m, o, h0, hq, hl, re, ok, e, q⟩ => ?_
  refine ⟨a, ns, μ, m, h0, hq, hl, ok, fun J H1 p1 ok1 w => ?_⟩
  obtain ⟨G, Y, W, hG, hY⟩ := w.ex
  have q1 := q.grow p1
  have re1 := re.grow p1
  refine for_it W (fun i σ2 H2 => ∃ μ2 ε2 m2, Post μ H1 μ2 H2 ∧ REnv μ2 H2 σ2 ε2 ∧ MOk μ2 H2 m2 ∧ loopD st f ((cells ns).drop i) ε2 m2 = some o) ⟨μ, ε, m, Post.refl _ _, re1, ok1, e⟩ (fun i σ2 H2 _ ⟨μ2, ε2, m2, p2, _⟩ => hG μ2 H2 p2.ke) (fun i x σ2 H2 H3 hi2 ⟨μ2, ε2, m2, p2, re2, ok2, e2⟩ y => ?_) (fun σ2 H2 ⟨μ2, ε2, m2, p2, re2, ok2, e2⟩ => ?_)
  · obtain ⟨p3, ok3, d, hd, rd⟩ := hY i μ2 H2 x H3 m2 p2.ke ok2 hi2 y
    have hd2 : (cells ns).drop i = d :: (cells ns).drop (i + 1) := by
      obtain ⟨hlt, he⟩ := List.getElem?_eq_some_iff.mp hd
      rw [← he]
      exact List.drop_eq_getElem_cons hlt
    rw [hd2] at e2
    unfold loopD at e2
    cases e3 : st d ε2 with
    | none => rw [e3] at e2; cases e2
    | some ε3 =>
      rw [e3] at e2
      simp only [Option.bind_some] at e2
      refine hgf μ2 H3 x d σ2 ε2 ε3 _ rd (re2.grow p3) e3 fun σ4 re4 _ _ => ?_
      cases e5 : f ε3 m2 with
      | none => rw [e5] at e2; cases e2
      | some o5 =>
        rw [e5] at e2
        simp only [Option.bind_some] at e2
        refine ⟨μ2, ε3, m2, o5, re4, ok3, e5, ?_⟩
        have pp := p2.trans p3
        cases o5 with
        | nx ε' m' => exact fun μ6 σ6 H6 p6 re6 ok6 => ⟨μ6, ε', m', pp.trans p6, re6, ok6, e2⟩
        | ct ε' m' => exact fun μ6 σ6 H6 p6 re6 ok6 => ⟨μ6, ε', m', pp.trans p6, re6, ok6, e2⟩
        | bk ε' m' => cases e2; exact fun μ6 σ6 H6 p6 re6 ok6 => q1 μ6 σ6 H6 (pp.trans p6) re6 ok6
        | rt d' m' => cases e2; exact fun μ6 v H6 p6 ok6 r6 => q1 μ6 v H6 (pp.trans p6) ok6 r6
        | rn es m' => cases e2; exact fun μ6 a H6 vs p6 ok6 hn => q1 μ6 a H6 vs (pp.trans p6) ok6 (pp.free hn)
  · rw [List.drop_length] at e2
    cases e2
    exact q1 μ2 σ2 H2 p2 re2 ok2
end
def spLaw (K : PySem.W.Frag) : Sp := fun vs H Q _ => ∃ (a : Addr) (ns : List Int), vs = [.ref a] ∧ SqL K H a (ns.map V.int) ∧ ns.length ≤ 63 ∧ ∀ H', Q (.bl true) H'
end DL
end
section
set_option Elab.async false
set_option linter.all false
set_option maxRecDepth 100000
set_option maxHeartbeats 4000000
namespace KK
open PySem PySem.Spec PyProof.Rows L2 DL

section
variable {P : Program} {w : World} {K : PySem.W.Frag} {mg : Str → Option Value} {base : Heap} {ad : Fid → Addr} {fd : Fid → FuncData} {n : Nat} {c : Fid → FD}
variable {nlaw_bag nplaces : FDN}
def w_law : F := fTup (faCons (fC (.str (Str.ofString "w"))) (faCons (fTup (faCons (fTup (faCons (fC (.str (Str.ofString "w"))) (faCons (fTup (faCons (fC (.str (Str.ofString "row"))) (faCons (fBin mulG (fTup (faCons (fTup (faCons (fC (.str (Str.ofString "times"))) (faCons (fC (.int 1)) (faCons (fTup (faCons (fC (.str (Str.ofString "bits"))) (faCons (fC (.str (Str.ofString "1"))) (faNil)))) (faNil))))) (faNil))) (fC (.int 34))) (faNil)))) (faNil)))) (faNil))) (faNil)))
def t_law (c : Fid → FD) : FT := fNotT (fTru (fCall (c .law_same) (faCons (fCall (c .places) (faCons (fV 1) (faNil))) (faCons (fCall (c .law_places) (faCons (fV 1) (faNil))) (faNil)))))
def l_law (c : Fid → FD) (nlaw_bag : FDN) : FS := sSeq (sOwnN 3 (fCallN nlaw_bag (faCons (fV 2) (faCons (fC (.int 160)) (faNil))))) (sSeq (sSet 4 (fCall (c .law_loose_sheet) (faCons (fV 3) (faNil)))) (sSeq (sSet 5 (fCall (c .law_places) (faCons (fV 4) (faNil)))) (sSeq (sSet 6 (fBin ixG (fV 5) (fCall (c .law_take) (faCons (fV 3) (faCons (fApp lenG (f1 (fV 5))) (faNil)))))) (sSeq (sIf (fOrT (fT (fBin isNotG (fCall (c .is_sheet) (faCons (fV 4) (faNil))) (fC (.bl true)))) (fT (fBin isNotG (fCall (c .is_sheet) (faCons (fCall (c .law_around) (faCons (fV 3) (faCons (fV 4) (faNil)))) (faNil))) (fC (.bl false))))) (sRet (fC (.bl false))) (sNx)) (sSeq (sIf (fOrT (fT (fBin isNotG (fCall (c .is_term) (faCons (fCall (c .law_at) (faCons (fKGet knownG (faCons (fV 4) (faNil)) (fBin ixG (fV 6) (fC (.int 0)))) (faCons (fBin ixG (fV 6) (fC (.int 1))) (faNil)))) (faNil))) (fC (.bl true)))) (fNotT (fTru (fCall (c .law_spots) (faCons (fV 3) (faCons (fV 4) (faCons (fV 5) (faNil)))))))) (sRet (fC (.bl false))) (sNx)) (sSeq (sSet 7 (fCall (c .law_wrong) (faCons (fV 3) (faNil)))) (sSeq (sIf (fOrT (fT (fBin isNotG (fCall (c .is_term) (faCons (fV 7) (faNil))) (fC (.bl false)))) (fT (fBin isNotG (fCall (c .is_sheet) (faCons (fCall (c .law_laid) (faCons (fV 4) (faCons (fV 6) (faCons (fV 7) (faNil))))) (faNil))) (fC (.bl false))))) (sRet (fC (.bl false))) (sNx)) (sSeq (sSet 8 (fCall (c .law_right) (faCons (fV 3) (faNil)))) (sSeq (sIf (fOrT (fT (fBin isNotG (fCall (c .is_term) (faCons (fV 8) (faNil))) (fC (.bl true)))) (fT (fBin isNotG (fCall (c .is_sheet) (faCons (fCall (c .law_laid) (faCons (fV 4) (faCons (fTup (faCons (fBin ixG (fV 6) (fC (.int 0))) (faCons (fTup (faNil)) (faNil)))) (faCons (fV 8) (faNil))))) (faNil))) (fC (.bl true))))) (sRet (fC (.bl false))) (sNx)) (sSeq (sSet 9 (fTup (faCons (fC (.str (Str.ofString "ref"))) (faCons (fBin addG (fC (.str (Str.ofString "zz"))) (fBin ixG (fC (.str (Str.ofString "abc"))) (fCall (c .law_take) (faCons (fV 3) (faCons (fC (.int 3)) (faNil)))))) (faNil))))) (sSeq (sIf (fOrT (fT (fBin isNotG (fCall (c .is_term) (faCons (fV 9) (faNil))) (fC (.bl true)))) (fT (fBin isNotG (fCall (c .is_sheet) (faCons (fCall (c .law_laid) (faCons (fV 4) (faCons (fV 6) (faCons (fV 9) (faNil))))) (faNil))) (fC (.bl false))))) (sRet (fC (.bl false))) (sNx)) (sIf (fOrT (fT (fBin isNotG (fCall (c .is_sheet) (faCons (fV 4) (faNil))) (fC (.bl true)))) (fT (fBin isNotG (fCall (c .is_term) (faCons (fV 7) (faNil))) (fC (.bl false))))) (sRet (fC (.bl false))) (sNx)))))))))))))
theorem ok_lawS (T : Txt K mg ad fd) (KB : KBs fd) (G : Gs P w K mg base ad fd n c) (GN : GNs P w K mg base ad fd n nlaw_bag nplaces) {wd : D} (h1 : ∀ ε, w_law ε [] = some (wd, [])) (h2 : t_law c [none, some wd, none, none, none, none, none, none, none, none] [] = some (false, []))
    (h3 : ∀ ns : List Int, ns.length ≤ 63 → ∃ ε' m', loopD (stN 2) (l_law c nlaw_bag) (cells ns) [none, some wd, none, none, none, none, none, none, none, none] [] = some (.nx ε' m')) :
    FnOk P w K mg base CX0 (n + 1) (ad .law) (fd .law) (ps .law) (spLaw K) := by
  have nd := sc_law.nd
  refine (T.fn .law).ok sc_law (fun vs H Q E h => ?_) (fun cdv A outer s H vs Q E hr h => ⟨_, pss_cons (ps_set (i := 1) nd rfl (Or.inl rfl) (d_tup (da_cons (d_str) (da_cons (d_tup (da_cons (d_tup (da_cons (d_str) (da_cons (d_tup (da_cons (d_str) (da_cons (d_mul (d_tup (da_cons (d_tup (da_cons (d_str) (da_cons (d_int) (da_cons (d_tup (da_cons (d_str) (da_cons (d_str) (da_nil)))) (da_nil))))) (da_nil))) (d_int)) (da_nil)))) (da_nil)))) (da_nil))) (da_nil)))))
    (pss_cons (ps_if (dt_not (dt_tru (d_call (G .law_same) hr (by rfl) (T.mgF .law_same) (T.kp .law_same) (T.bd .law_same) (da_cons (d_call (G .places) hr (by rfl) (T.mgF .places) (T.kp .places) (T.bd .places) (da_cons (d_var 1) (da_nil))) (da_cons (d_call (G .law_places) hr (by rfl) (T.mgF .law_places) (T.kp .law_places) (T.bd .law_places) (da_cons (d_var 1) (da_nil))) (da_nil)))))) (ds_one (ds_ret d_bl)) pss_nil) (pss_cons (ds_forS PassesOwn.never rfl (di_script rfl (Or.inl rfl) (by decide) (by decide)) (pg_name (i := 2) nd rfl (Or.inl rfl)) g_name (ds_cons (ds_ownN (i := 3) nd rfl (Or.inl rfl) (dn_call (GN.law_bag) hr (by rfl) (T.mgF .law_bag) (T.kp .law_bag) (T.bd .law_bag) (da_cons (d_var 2) (da_cons (d_int) (da_nil)))))
    (ds_cons (ds_set (i := 4) nd rfl (Or.inl rfl) (d_call (G .law_loose_sheet) hr (by rfl) (T.mgF .law_loose_sheet) (T.kp .law_loose_sheet) (T.bd .law_loose_sheet) (da_cons (d_var 3) (da_nil))))
    (ds_cons (ds_set (i := 5) nd rfl (Or.inl rfl) (d_call (G .law_places) hr (by rfl) (T.mgF .law_places) (T.kp .law_places) (T.bd .law_places) (da_cons (d_var 4) (da_nil))))
    (ds_cons (ds_set (i := 6) nd rfl (Or.inl rfl) (d_item (d_var 5) (d_call (G .law_take) hr (by rfl) (T.mgF .law_take) (T.kp .law_take) (T.bd .law_take) (da_cons (d_var 3) (da_cons (d_len (by rfl) T.b_len (d_var 5)) (da_nil))))))
    (ds_cons (ds_if (PW.pt (dw_or (dt_isNot (d_callK (G .is_sheet) hr (by rfl) (T.mgF .is_sheet) (T.kp .is_sheet) (KB.is_sheet) (dk_cons (d_var 4) (dk_nil))) (d_bl)) (dw_or1 (dt_isNot (d_call (G .is_sheet) hr (by rfl) (T.mgF .is_sheet) (T.kp .is_sheet) (T.bd .is_sheet) (da_cons (d_call (G .law_around) hr (by rfl) (T.mgF .law_around) (T.kp .law_around) (T.bd .law_around) (da_cons (d_var 3) (da_cons (d_var 4) (da_nil)))) (da_nil))) (d_bl))))) (ds_one (ds_ret (d_bl))) (ds_nil))
    (ds_cons (ds_if (PW.pt (dw_or (dt_isNot (d_call (G .is_term) hr (by rfl) (T.mgF .is_term) (T.kp .is_term) (T.bd .is_term) (da_cons (d_call (G .law_at) hr (by rfl) (T.mgF .law_at) (T.kp .law_at) (T.bd .law_at) (da_cons (d_kget (hu_of hr) (GN.law_known) hr (by rfl) (T.mgF .law_known) (T.kp .law_known) (T.bd .law_known) (da_cons (d_var 4) (da_nil)) (d_item (d_var 6) (d_int)) (fun _ _ => rfl) (pure_ixV _ _)) (da_cons (d_item (d_var 6) (d_int)) (da_nil)))) (da_nil))) (d_bl)) (dw_or1 (dt_not (dt_tru (d_call (G .law_spots) hr (by rfl) (T.mgF .law_spots) (T.kp .law_spots) (T.bd .law_spots) (da_cons (d_var 3) (da_cons (d_var 4) (da_cons (d_var 5) (da_nil)))))))))) (ds_one (ds_ret (d_bl))) (ds_nil))
    (ds_cons (ds_set (i := 7) nd rfl (Or.inl rfl) (d_call (G .law_wrong) hr (by rfl) (T.mgF .law_wrong) (T.kp .law_wrong) (T.bd .law_wrong) (da_cons (d_var 3) (da_nil))))
    (ds_cons (ds_if (PW.pt (dw_or (dt_isNot (d_callK (G .is_term) hr (by rfl) (T.mgF .is_term) (T.kp .is_term) (KB.is_term) (dk_cons (d_var 7) (dk_nil))) (d_bl)) (dw_or1 (dt_isNot (d_call (G .is_sheet) hr (by rfl) (T.mgF .is_sheet) (T.kp .is_sheet) (T.bd .is_sheet) (da_cons (d_call (G .law_laid) hr (by rfl) (T.mgF .law_laid) (T.kp .law_laid) (T.bd .law_laid) (da_cons (d_var 4) (da_cons (d_var 6) (da_cons (d_var 7) (da_nil))))) (da_nil))) (d_bl))))) (ds_one (ds_ret (d_bl))) (ds_nil))
    (ds_cons (ds_set (i := 8) nd rfl (Or.inl rfl) (d_call (G .law_right) hr (by rfl) (T.mgF .law_right) (T.kp .law_right) (T.bd .law_right) (da_cons (d_var 3) (da_nil))))
    (ds_cons (ds_if (PW.pt (dw_or (dt_isNot (d_call (G .is_term) hr (by rfl) (T.mgF .is_term) (T.kp .is_term) (T.bd .is_term) (da_cons (d_var 8) (da_nil))) (d_bl)) (dw_or1 (dt_isNot (d_call (G .is_sheet) hr (by rfl) (T.mgF .is_sheet) (T.kp .is_sheet) (T.bd .is_sheet) (da_cons (d_call (G .law_laid) hr (by rfl) (T.mgF .law_laid) (T.kp .law_laid) (T.bd .law_laid) (da_cons (d_var 4) (da_cons (d_tup (da_cons (d_item (d_var 6) (d_int)) (da_cons (d_tup (da_nil)) (da_nil)))) (da_cons (d_var 8) (da_nil))))) (da_nil))) (d_bl))))) (ds_one (ds_ret (d_bl))) (ds_nil))
    (ds_cons (ds_set (i := 9) nd rfl (Or.inl rfl) (d_tup (da_cons (d_str) (da_cons (d_add (d_str) (d_item (d_str) (d_call (G .law_take) hr (by rfl) (T.mgF .law_take) (T.kp .law_take) (T.bd .law_take) (da_cons (d_var 3) (da_cons (d_int) (da_nil)))))) (da_nil)))))
    (ds_cons (ds_if (PW.pt (dw_or (dt_isNot (d_call (G .is_term) hr (by rfl) (T.mgF .is_term) (T.kp .is_term) (T.bd .is_term) (da_cons (d_var 9) (da_nil))) (d_bl)) (dw_or1 (dt_isNot (d_call (G .is_sheet) hr (by rfl) (T.mgF .is_sheet) (T.kp .is_sheet) (T.bd .is_sheet) (da_cons (d_call (G .law_laid) hr (by rfl) (T.mgF .law_laid) (T.kp .law_laid) (T.bd .law_laid) (da_cons (d_var 4) (da_cons (d_var 6) (da_cons (d_var 9) (da_nil))))) (da_nil))) (d_bl))))) (ds_one (ds_ret (d_bl))) (ds_nil))
    (ds_one (ds_if (PW.pt (dw_or (dt_isNot (d_call (G .is_sheet) hr (by rfl) (T.mgF .is_sheet) (T.kp .is_sheet) (T.bd .is_sheet) (da_cons (d_var 4) (da_nil))) (d_bl)) (dw_or1 (dt_isNot (d_call (G .is_term) hr (by rfl) (T.mgF .is_term) (T.kp .is_term) (T.bd .is_term) (da_cons (d_var 7) (da_nil))) (d_bl))))) (ds_one (ds_ret (d_bl))) (ds_nil)))))))))))))))) (ds_one (ds_ret d_bl)))), ?_⟩)
  · obtain ⟨a, ns, rfl, _⟩ := h
    rfl
  · obtain ⟨a, ns, rfl, hq, hl, q⟩ := h
    have ok0 : MOk ⟨[], []⟩ H [] := ⟨List.nodup_nil, rfl, fun k a ds h1 => by simp at h1, fun a ha => by simp at ha⟩
    have re0 : ∀ z : Option V, REnv ⟨[], []⟩ H [some (.ref a), z, none, none, none, none, none, none, none, none] [none, none, none, none, none, none, none, none, none, none] := fun z => ⟨rfl, fun j d' hj => by
      have hj' : (List.replicate 10 (none : Option D))[j]? = some (some d') := hj
      rw [List.getElem?_replicate] at hj'
      split at hj' <;> cases hj'⟩
    have sqg : ∀ {H1 : Hp}, Post ⟨[], []⟩ H ⟨[], []⟩ H1 → SqL K H1 a (ns.map V.int) := fun {H1} p => by
      rcases hq with (e | ⟨o, e⟩) | hk
      · exact .inl (.inl (p.keep _ _ e (by simp)))
      · exact .inl (.inr ⟨o, p.keep _ _ e (by simp)⟩)
      · exact .inr hk
    obtain ⟨ε', m', e3⟩ := h3 ns hl
    refine ⟨⟨[], []⟩, _, [], wd, [], re0 none, ok0, h1 _, fun v H1 p1 ok1 r1 => ?_⟩
    have re1 : REnv ⟨[], []⟩ H1 [some (.ref a), some v, none, none, none, none, none, none, none, none] [none, some wd, none, none, none, none, none, none, none, none] := ((re0 none).grow p1).set r1 1
    refine ⟨⟨[], []⟩, _, [], false, [], re1, ok1, h2, fun H2 p2 ok2 => ?_⟩
    simp only [Bool.false_eq_true, if_false]
    refine ⟨a, ns, ⟨[], []⟩, _, [], _, rfl, sqg (p1.trans p2), hl, re1.grow p2, ok2, e3, fun μ3 σ3 H3 p3 re3 ok3 => ?_⟩
    exact ⟨μ3, ε', m', .rt (.bl true) m', re3, ok3, rfl, fun μ4 v4 H4 p4 ok4 r4 => by cases r4; exact q H4⟩
end
end KK
end
section
set_option Elab.async false
set_option linter.all false
set_option maxRecDepth 100000
set_option maxHeartbeats 4000000
namespace KK
open PySem PySem.Spec PyProof.Rows L2 DL

section
variable {P : Program} {w : World} {K : PySem.W.Frag} {mg : Str → Option Value} {base : Heap} {ad : Fid → Addr} {fd : Fid → FuncData} {n : Nat} {c : Fid → FD}

def b_is_integer (c : Fid → FD) : FS :=
  sRet (fAnd (fUn (isiG "int") (fV 0)) (fBin eqG (fUn clsG (fV 0)) (fC (.str (Str.ofString "int")))))
theorem ok_is_integer (T : Txt K mg ad fd) (G : Gs P w K mg base ad fd n c) : FnOk P w K mg base CX0 (n + 1) (ad .is_integer) (fd .is_integer) (ps .is_integer) (spD (fnD 1 1 (b_is_integer c))) := by
  have nd := sc_is_integer.nd
  exact d_fn (T.fn .is_integer) sc_is_integer (fun cdv A outer s H E hr =>
    ds_one (ds_ret (d_and (d_isi (T := "int") t_int (by rfl) T.b_isinstance (d_var 0) (by rfl) T.b_int (by decide +kernel) (by decide +kernel) (by decide +kernel)) (d_one (d_eq hr.units (d_cls (d_var 0)) (d_str))))))
def b_is_string (c : Fid → FD) : FS :=
  sRet (fAnd (fUn (isiG "str") (fV 0)) (fBin eqG (fUn clsG (fV 0)) (fC (.str (Str.ofString "str")))))
theorem ok_is_string (T : Txt K mg ad fd) (G : Gs P w K mg base ad fd n c) : FnOk P w K mg base CX0 (n + 1) (ad .is_string) (fd .is_string) (ps .is_string) (spD (fnD 1 1 (b_is_string c))) := by
  have nd := sc_is_string.nd
  exact d_fn (T.fn .is_string) sc_is_string (fun cdv A outer s H E hr =>
    ds_one (ds_ret (d_and (d_isi (T := "str") t_str (by rfl) T.b_isinstance (d_var 0) (by rfl) T.b_str (by decide +kernel) (by decide +kernel) (by decide +kernel)) (d_one (d_eq hr.units (d_cls (d_var 0)) (d_str))))))
def b_is_tuple (c : Fid → FD) : FS :=
  sRet (fAnd (fUn (isiG "tuple") (fV 0)) (fBin eqG (fUn clsG (fV 0)) (fC (.str (Str.ofString "tuple")))))
theorem ok_is_tuple (T : Txt K mg ad fd) (G : Gs P w K mg base ad fd n c) : FnOk P w K mg base CX0 (n + 1) (ad .is_tuple) (fd .is_tuple) (ps .is_tuple) (spD (fnD 1 1 (b_is_tuple c))) := by
  have nd := sc_is_tuple.nd
  exact d_fn (T.fn .is_tuple) sc_is_tuple (fun cdv A outer s H E hr =>
    ds_one (ds_ret (d_and (d_isi (T := "tuple") t_tuple (by rfl) T.b_isinstance (d_var 0) (by rfl) T.b_tuple (by decide +kernel) (by decide +kernel) (by decide +kernel)) (d_one (d_eq hr.units (d_cls (d_var 0)) (d_str))))))
def b_is_within (c : Fid → FD) : FS :=
  sRet (fAnd (fCall (c .is_integer) (faCons (fV 0) (faNil))) (fChain leG leG (fV 1) (fV 0) (fV 2)))
theorem ok_is_within (T : Txt K mg ad fd) (G : Gs P w K mg base ad fd n c) : FnOk P w K mg base CX0 (n + 1) (ad .is_within) (fd .is_within) (ps .is_within) (spD (fnD 3 3 (b_is_within c))) := by
  have nd := sc_is_within.nd
  exact d_fn (T.fn .is_within) sc_is_within (fun cdv A outer s H E hr =>
    ds_one (ds_ret (d_and (d_call (G .is_integer) hr (by rfl) (T.mgF .is_integer) (T.kp .is_integer) (T.bd .is_integer) (da_cons (d_var 0) (da_nil))) (d_one (d_chain op_leD fits_le op_leD fits_le (d_var 1) (d_var 0) (d_var 2))))))
def b_is_tuple_of (c : Fid → FD) : FS :=
  sRet (fAnd (fCall (c .is_tuple) (faCons (fV 0) (faNil))) (fBin eqG (fApp lenG (f1 (fV 0))) (fV 1)))
theorem ok_is_tuple_of (T : Txt K mg ad fd) (G : Gs P w K mg base ad fd n c) : FnOk P w K mg base CX0 (n + 1) (ad .is_tuple_of) (fd .is_tuple_of) (ps .is_tuple_of) (spD (fnD 2 2 (b_is_tuple_of c))) := by
  have nd := sc_is_tuple_of.nd
  exact d_fn (T.fn .is_tuple_of) sc_is_tuple_of (fun cdv A outer s H E hr =>
    ds_one (ds_ret (d_and (d_call (G .is_tuple) hr (by rfl) (T.mgF .is_tuple) (T.kp .is_tuple) (T.bd .is_tuple) (da_cons (d_var 0) (da_nil))) (d_one (d_eq hr.units (d_len (by rfl) T.b_len (d_var 0)) (d_var 1))))))
def b_is_sign (c : Fid → FD) : FS :=
  sRet (fAnd (fChain leG leG (fC (.str (Str.ofString " "))) (fV 0) (fC (.str (Str.ofString "~")))) (fAnd (fBin neG (fV 0) (fC (.str (Str.ofString "'")))) (fAnd (fBin neG (fV 0) (fC (.str (Str.ofString "\\")))) (fBin neG (fApp ordG (f1 (fV 0))) (fC (.int 37))))))
theorem ok_is_sign (T : Txt K mg ad fd) (G : Gs P w K mg base ad fd n c) : FnOk P w K mg base CX0 (n + 1) (ad .is_sign) (fd .is_sign) (ps .is_sign) (spD (fnD 1 1 (b_is_sign c))) := by
  have nd := sc_is_sign.nd
  exact d_fn (T.fn .is_sign) sc_is_sign (fun cdv A outer s H E hr =>
    ds_one (ds_ret (d_and (d_chain op_leD fits_le op_leD fits_le (d_str) (d_var 0) (d_str)) (d_and (d_ne hr.units (d_var 0) (d_str)) (d_and (d_ne hr.units (d_var 0) (d_str)) (d_one (d_ne hr.units (d_ord (by rfl) T.b_ord (d_var 0)) ((d_globI (i := 37) (by rfl) T.c_PERCENT)))))))))
def b_is_text (c : Fid → FD) : FS :=
  sRet (fAnd (fCall (c .is_string) (faCons (fV 0) (faNil))) (fAnd (fBin leG (fApp lenG (f1 (fV 0))) (fC (.int 12))) (fApp allG (f1 (fLc (fItems (fV 0)) (stN 1) (fYes) (fCall (c .is_sign) (faCons (fV 1) (faNil))) [1])))))
theorem ok_is_text (T : Txt K mg ad fd) (G : Gs P w K mg base ad fd n c) : FnOk P w K mg base CX0 (n + 1) (ad .is_text) (fd .is_text) (ps .is_text) (spD (fnD 1 2 (b_is_text c))) := by
  have nd := sc_is_text.nd
  exact d_fn (T.fn .is_text) sc_is_text (fun cdv A outer s H E hr =>
    ds_one (ds_ret (d_and (d_call (G .is_string) hr (by rfl) (T.mgF .is_string) (T.kp .is_string) (T.bd .is_string) (da_cons (d_var 0) (da_nil))) (d_and (d_le (d_len (by rfl) T.b_len (d_var 0)) ((d_globI (i := 12) (by rfl) T.c_TEXT_SIGNS))) (d_one (d_all (by rfl) (by rfl) T.b_all (d_lc (by rfl) (by exact nd) (di_seq (d_var 0)) (blkOk_by (own := [((Str.ofString "char"), 1)]) (N := n_is_text) (sc := defScope s_is_text) (by decide +kernel)) (fun _ _ _ _ _ => pg_name (i := 1) (by exact nd) (by rfl) (by exact Or.inl rfl)) (g_name) (fun _ _ _ _ _ => dts_nil) (fun _ _ _ _ _ => d_call (G .is_sign) hr (by rfl) (T.mgF .is_sign) (T.kp .is_sign) (T.bd .is_sign) (da_cons (d_var 1) (da_nil))))))))))
def b_is_atom (c : Fid → FD) : FS :=
  sSeq (sIf (fTru (fCall (c .is_integer) (faCons (fV 0) (faNil)))) (sRet (fChain ltG ltG (fUn negG (fC (.int 10000000000000000000000000000000000000000))) (fV 0) (fC (.int 10000000000000000000000000000000000000000)))) (sNx)) (sRet (fCall (c .is_text) (faCons (fV 0) (faNil))))
theorem ok_is_atom (T : Txt K mg ad fd) (G : Gs P w K mg base ad fd n c) : FnOk P w K mg base CX0 (n + 1) (ad .is_atom) (fd .is_atom) (ps .is_atom) (spD (fnD 1 1 (b_is_atom c))) := by
  have nd := sc_is_atom.nd
  exact d_fn (T.fn .is_atom) sc_is_atom (fun cdv A outer s H E hr =>
    ds_cons (ds_if (dt_tru (d_call (G .is_integer) hr (by rfl) (T.mgF .is_integer) (T.kp .is_integer) (T.bd .is_integer) (da_cons (d_var 0) (da_nil)))) (ds_one (ds_ret (d_chain op_ltD fits_lt op_ltD fits_lt (d_neg ((d_globI (i := 10000000000000000000000000000000000000000) (by rfl) T.c_ATOM_BOUND))) (d_var 0) ((d_globI (i := 10000000000000000000000000000000000000000) (by rfl) T.c_ATOM_BOUND))))) (ds_nil))
    (ds_one (ds_ret (d_call (G .is_text) hr (by rfl) (T.mgF .is_text) (T.kp .is_text) (T.bd .is_text) (da_cons (d_var 0) (da_nil))))))
def b_is_bits (c : Fid → FD) : FS :=
  sRet (fAnd (fCall (c .is_string) (faCons (fV 0) (faNil))) (fBin eqG (fMt stripG (fV 0) (fC (.str (Str.ofString "01")))) (fC (.str (Str.ofString "")))))
theorem ok_is_bits (T : Txt K mg ad fd) (G : Gs P w K mg base ad fd n c) : FnOk P w K mg base CX0 (n + 1) (ad .is_bits) (fd .is_bits) (ps .is_bits) (spD (fnD 1 1 (b_is_bits c))) := by
  have nd := sc_is_bits.nd
  exact d_fn (T.fn .is_bits) sc_is_bits (fun cdv A outer s H E hr =>
    ds_one (ds_ret (d_and (d_call (G .is_string) hr (by rfl) (T.mgF .is_string) (T.kp .is_string) (T.bd .is_string) (da_cons (d_var 0) (da_nil))) (d_one (d_eq hr.units (d_strip (d_var 0) (d_str)) (d_str))))))
def b_is_bits_of (c : Fid → FD) : FS :=
  sRet (fAnd (fCall (c .is_bits) (faCons (fV 0) (faNil))) (fChain leG leG (fV 1) (fApp lenG (f1 (fV 0))) (fV 2)))
theorem ok_is_bits_of (T : Txt K mg ad fd) (G : Gs P w K mg base ad fd n c) : FnOk P w K mg base CX0 (n + 1) (ad .is_bits_of) (fd .is_bits_of) (ps .is_bits_of) (spD (fnD 3 3 (b_is_bits_of c))) := by
  have nd := sc_is_bits_of.nd
  exact d_fn (T.fn .is_bits_of) sc_is_bits_of (fun cdv A outer s H E hr =>
    ds_one (ds_ret (d_and (d_call (G .is_bits) hr (by rfl) (T.mgF .is_bits) (T.kp .is_bits) (T.bd .is_bits) (da_cons (d_var 0) (da_nil))) (d_one (d_chain op_leD fits_le op_leD fits_le (d_var 1) (d_len (by rfl) T.b_len (d_var 0)) (d_var 2))))))
def b_is_name (c : Fid → FD) : FS :=
  sSeq (sIf (fOrT (fNotT (fTru (fCall (c .is_string) (faCons (fV 0) (faNil))))) (fOrT (fNotT (fT (fChain leG leG (fC (.int 1)) (fApp lenG (f1 (fV 0))) (fC (.int 12))))) (fT (fBin notInG (fBin ixG (fV 0) (fC (.int 0))) (fC (.str (Str.ofString "abcdefghijklmnopqrstuvwxyz"))))))) (sRet (fC (.bl false))) (sNx)) (sRet (fApp allG (f1 (fLc (fItems (fV 0)) (stN 1) (fYes) (fOr (fBin inG (fV 1) (fC (.str (Str.ofString "abcdefghijklmnopqrstuvwxyz")))) (fOr (fBin inG (fV 1) (fC (.str (Str.ofString "0123456789")))) (fBin eqG (fV 1) (fC (.str (Str.ofString "_")))))) [1]))))
theorem ok_is_name (T : Txt K mg ad fd) (G : Gs P w K mg base ad fd n c) : FnOk P w K mg base CX0 (n + 1) (ad .is_name) (fd .is_name) (ps .is_name) (spD (fnD 1 2 (b_is_name c))) := by
  have nd := sc_is_name.nd
  exact d_fn (T.fn .is_name) sc_is_name (fun cdv A outer s H E hr =>
    ds_cons (ds_if (PW.pt (dw_or (dt_not (dt_tru (d_call (G .is_string) hr (by rfl) (T.mgF .is_string) (T.kp .is_string) (T.bd .is_string) (da_cons (d_var 0) (da_nil))))) (dw_or (dt_not (dt_chain op_leD fits_le op_leD fits_le (d_int) (d_len (by rfl) T.b_len (d_var 0)) ((d_globI (i := 12) (by rfl) T.c_NAME_SIGNS)))) (dw_or1 (dt_notIn (d_item (d_var 0) (d_int)) ((d_globS (i := (Str.ofString "abcdefghijklmnopqrstuvwxyz")) (by rfl) T.c_LETTERS))))))) (ds_one (ds_ret (d_bl))) (ds_nil))
    (ds_one (ds_ret (d_all (by rfl) (by rfl) T.b_all (d_lc (by rfl) (by exact nd) (di_seq (d_var 0)) (blkOk_by (own := [((Str.ofString "char"), 1)]) (N := n_is_name) (sc := defScope s_is_name) (by decide +kernel)) (fun _ _ _ _ _ => pg_name (i := 1) (by exact nd) (by rfl) (by exact Or.inl rfl)) (g_name) (fun _ _ _ _ _ => dts_nil) (fun _ _ _ _ _ => d_or (d_in (d_var 1) ((d_globS (i := (Str.ofString "abcdefghijklmnopqrstuvwxyz")) (by rfl) T.c_LETTERS))) (d_or (d_in (d_var 1) ((d_globS (i := (Str.ofString "0123456789")) (by rfl) T.c_DIGITS))) (d_one (d_eq hr.units (d_var 1) (d_str))))))))))
def b_is_path (c : Fid → FD) : FS :=
  sRet (fAnd (fCall (c .is_tuple) (faCons (fV 0) (faNil))) (fApp allG (f1 (fLc (fItems (fV 0)) (stN 1) (fYes) (fAnd (fCall (c .is_integer) (faCons (fV 1) (faNil))) (fBin geG (fV 1) (fC (.int 0)))) [1]))))
theorem ok_is_path (T : Txt K mg ad fd) (G : Gs P w K mg base ad fd n c) : FnOk P w K mg base CX0 (n + 1) (ad .is_path) (fd .is_path) (ps .is_path) (spD (fnD 1 2 (b_is_path c))) := by
  have nd := sc_is_path.nd
  exact d_fn (T.fn .is_path) sc_is_path (fun cdv A outer s H E hr =>
    ds_one (ds_ret (d_and (d_call (G .is_tuple) hr (by rfl) (T.mgF .is_tuple) (T.kp .is_tuple) (T.bd .is_tuple) (da_cons (d_var 0) (da_nil))) (d_one (d_all (by rfl) (by rfl) T.b_all (d_lc (by rfl) (by exact nd) (di_seq (d_var 0)) (blkOk_by (own := [((Str.ofString "step"), 1)]) (N := n_is_path) (sc := defScope s_is_path) (by decide +kernel)) (fun _ _ _ _ _ => pg_name (i := 1) (by exact nd) (by rfl) (by exact Or.inl rfl)) (g_name) (fun _ _ _ _ _ => dts_nil) (fun _ _ _ _ _ => d_and (d_call (G .is_integer) hr (by rfl) (T.mgF .is_integer) (T.kp .is_integer) (T.bd .is_integer) (da_cons (d_var 1) (da_nil))) (d_one (d_ge (d_var 1) (d_int))))))))))
def b_is_ascending (c : Fid → FD) : FS :=
  sRet (fApp allG (f1 (fLc (fRng1 (fBin subG (fApp lenG (f1 (fV 0))) (fC (.int 1)))) (stN 1) (fYes) (fBin ltG (fBin ixG (fV 0) (fV 1)) (fBin ixG (fV 0) (fBin addG (fV 1) (fC (.int 1))))) [1])))
theorem ok_is_ascending (T : Txt K mg ad fd) (G : Gs P w K mg base ad fd n c) : FnOk P w K mg base CX0 (n + 1) (ad .is_ascending) (fd .is_ascending) (ps .is_ascending) (spD (fnD 1 2 (b_is_ascending c))) := by
  have nd := sc_is_ascending.nd
  exact d_fn (T.fn .is_ascending) sc_is_ascending (fun cdv A outer s H E hr =>
    ds_one (ds_ret (d_all (by rfl) (by rfl) T.b_all (d_lc (by rfl) (by exact nd) (di_range1 (by rfl) T.b_range (d_sub (d_len (by rfl) T.b_len (d_var 0)) (d_int))) (blkOk_by (own := [((Str.ofString "k"), 1)]) (N := n_is_ascending) (sc := defScope s_is_ascending) (by decide +kernel)) (fun _ _ _ _ _ => pg_name (i := 1) (by exact nd) (by rfl) (by exact Or.inl rfl)) (g_name) (fun _ _ _ _ _ => dts_nil) (fun _ _ _ _ _ => d_lt (d_item (d_var 0) (d_var 1)) (d_item (d_var 0) (d_add (d_var 1) (d_int))))))))
def b_is_bits_term (c : Fid → FD) : FS :=
  sRet (fAnd (fBin eqG (fApp lenG (f1 (fV 0))) (fC (.int 2))) (fCall (c .is_bits_of) (faCons (fBin ixG (fV 0) (fC (.int 1))) (faCons (fC (.int 0)) (faCons (fC (.int 400)) (faNil))))))
theorem ok_is_bits_term (T : Txt K mg ad fd) (G : Gs P w K mg base ad fd n c) : FnOk P w K mg base CX0 (n + 1) (ad .is_bits_term) (fd .is_bits_term) (ps .is_bits_term) (spD (fnD 2 2 (b_is_bits_term c))) := by
  have nd := sc_is_bits_term.nd
  exact d_fn (T.fn .is_bits_term) sc_is_bits_term (fun cdv A outer s H E hr =>
    ds_one (ds_ret (d_and (d_eq hr.units (d_len (by rfl) T.b_len (d_var 0)) (d_int)) (d_one (d_call (G .is_bits_of) hr (by rfl) (T.mgF .is_bits_of) (T.kp .is_bits_of) (T.bd .is_bits_of) (da_cons (d_item (d_var 0) (d_int)) (da_cons (d_int) (da_cons ((d_globI (i := 400) (by rfl) T.c_MOST_BITS)) (da_nil)))))))))
def b_is_table_row (c : Fid → FD) : FS :=
  sRet (fAnd (fCall (c .is_tuple_of) (faCons (fV 0) (faCons (fC (.int 2)) (faNil)))) (fAnd (fCall (c .is_atom) (faCons (fBin ixG (fV 0) (fC (.int 0))) (faNil))) (fCall (c .is_bits_of) (faCons (fBin ixG (fV 0) (fC (.int 1))) (faCons (fC (.int 0)) (faCons (fC (.int 400)) (faNil)))))))
theorem ok_is_table_row (T : Txt K mg ad fd) (G : Gs P w K mg base ad fd n c) : FnOk P w K mg base CX0 (n + 1) (ad .is_table_row) (fd .is_table_row) (ps .is_table_row) (spD (fnD 1 1 (b_is_table_row c))) := by
  have nd := sc_is_table_row.nd
  exact d_fn (T.fn .is_table_row) sc_is_table_row (fun cdv A outer s H E hr =>
    ds_one (ds_ret (d_and (d_call (G .is_tuple_of) hr (by rfl) (T.mgF .is_tuple_of) (T.kp .is_tuple_of) (T.bd .is_tuple_of) (da_cons (d_var 0) (da_cons (d_int) (da_nil)))) (d_and (d_call (G .is_atom) hr (by rfl) (T.mgF .is_atom) (T.kp .is_atom) (T.bd .is_atom) (da_cons (d_item (d_var 0) (d_int)) (da_nil))) (d_one (d_call (G .is_bits_of) hr (by rfl) (T.mgF .is_bits_of) (T.kp .is_bits_of) (T.bd .is_bits_of) (da_cons (d_item (d_var 0) (d_int)) (da_cons (d_int) (da_cons ((d_globI (i := 400) (by rfl) T.c_MOST_BITS)) (da_nil))))))))))
def b_is_table_term (c : Fid → FD) : FS :=
  sSeq (sIf (fOrT (fT (fBin neG (fApp lenG (f1 (fV 0))) (fC (.int 2)))) (fOrT (fNotT (fTru (fCall (c .is_tuple) (faCons (fBin ixG (fV 0) (fC (.int 1))) (faNil))))) (fNotT (fTru (fApp allG (f1 (fLc (fItems (fBin ixG (fV 0) (fC (.int 1)))) (stN 2) (fYes) (fCall (c .is_table_row) (faCons (fV 2) (faNil))) [2]))))))) (sRet (fC (.bl false))) (sNx)) (sRet (fBin eqG (fLenSc (fItems (fBin ixG (fV 0) (fC (.int 1)))) (stN 2) (fBin ixG (fV 2) (fC (.int 0))) [2]) (fApp lenG (f1 (fBin ixG (fV 0) (fC (.int 1)))))))
theorem ok_is_table_term (T : Txt K mg ad fd) (G : Gs P w K mg base ad fd n c) : FnOk P w K mg base CX0 (n + 1) (ad .is_table_term) (fd .is_table_term) (ps .is_table_term) (spD (fnD 2 3 (b_is_table_term c))) := by
  have nd := sc_is_table_term.nd
  exact d_fn (T.fn .is_table_term) sc_is_table_term (fun cdv A outer s H E hr =>
    ds_cons (ds_if (PW.pt (dw_or (dt_ne hr.units (d_len (by rfl) T.b_len (d_var 0)) (d_int)) (dw_or (dt_not (dt_tru (d_call (G .is_tuple) hr (by rfl) (T.mgF .is_tuple) (T.kp .is_tuple) (T.bd .is_tuple) (da_cons (d_item (d_var 0) (d_int)) (da_nil))))) (dw_or1 (dt_not (dt_tru (d_all (by rfl) (by rfl) T.b_all (d_lc (by rfl) (by exact nd) (di_seq (d_item (d_var 0) (d_int))) (blkOk_by (own := [((Str.ofString "row"), 2)]) (N := n_is_table_term) (sc := defScope s_is_table_term) (by decide +kernel)) (fun _ _ _ _ _ => pg_name (i := 2) (by exact nd) (by rfl) (by exact Or.inl rfl)) (g_name) (fun _ _ _ _ _ => dts_nil) (fun _ _ _ _ _ => d_call (G .is_table_row) hr (by rfl) (T.mgF .is_table_row) (T.kp .is_table_row) (T.bd .is_table_row) (da_cons (d_var 2) (da_nil))))))))))) (ds_one (ds_ret (d_bl))) (ds_nil))
    (ds_one (ds_ret (d_eq hr.units (d_lenSc (by rfl) T.b_len (by rfl) (by exact nd) (di_seq (d_item (d_var 0) (d_int))) (blkOk_by (own := [((Str.ofString "row"), 2)]) (N := n_is_table_term) (sc := defScope s_is_table_term) (by decide +kernel)) (fun _ _ _ _ _ => pg_name (i := 2) (by exact nd) (by rfl) (by exact Or.inl rfl)) (g_name) (fun _ _ _ _ _ => d_item (d_var 2) (d_int))) (d_len (by rfl) T.b_len (d_item (d_var 0) (d_int)))))))
def b_is_width_term (c : Fid → FD) : FS :=
  sRet (fAnd (fBin eqG (fApp lenG (f1 (fV 0))) (fC (.int 2))) (fCall (c .is_within) (faCons (fBin ixG (fV 0) (fC (.int 1))) (faCons (fC (.int 0)) (faCons (fC (.int 8)) (faNil))))))
theorem ok_is_width_term (T : Txt K mg ad fd) (G : Gs P w K mg base ad fd n c) : FnOk P w K mg base CX0 (n + 1) (ad .is_width_term) (fd .is_width_term) (ps .is_width_term) (spD (fnD 2 2 (b_is_width_term c))) := by
  have nd := sc_is_width_term.nd
  exact d_fn (T.fn .is_width_term) sc_is_width_term (fun cdv A outer s H E hr =>
    ds_one (ds_ret (d_and (d_eq hr.units (d_len (by rfl) T.b_len (d_var 0)) (d_int)) (d_one (d_call (G .is_within) hr (by rfl) (T.mgF .is_within) (T.kp .is_within) (T.bd .is_within) (da_cons (d_item (d_var 0) (d_int)) (da_cons (d_int) (da_cons ((d_globI (i := 8) (by rfl) T.c_MOST_WIDTH)) (da_nil)))))))))
def b_is_row_term (c : Fid → FD) : FS :=
  sSeq (sIf (fOrT (fT (fBin neG (fApp lenG (f1 (fV 0))) (fC (.int 2)))) (fNotT (fTru (fCall (c .is_tuple) (faCons (fBin ixG (fV 0) (fC (.int 1))) (faNil)))))) (sRet (fC (.bl false))) (sNx)) (sRet (fApp allG (f1 (fLc (fItems (fBin ixG (fV 0) (fC (.int 1)))) (stN 2) (fYes) (fCall (c .is_term_within) (faCons (fV 2) (faCons (fBin subG (fV 1) (fC (.int 1))) (faNil)))) [2]))))
theorem ok_is_row_term (T : Txt K mg ad fd) (G : Gs P w K mg base ad fd n c) : FnOk P w K mg base CX0 (n + 1) (ad .is_row_term) (fd .is_row_term) (ps .is_row_term) (spD (fnD 2 3 (b_is_row_term c))) := by
  have nd := sc_is_row_term.nd
  exact d_fn (T.fn .is_row_term) sc_is_row_term (fun cdv A outer s H E hr =>
    ds_cons (ds_if (PW.pt (dw_or (dt_ne hr.units (d_len (by rfl) T.b_len (d_var 0)) (d_int)) (dw_or1 (dt_not (dt_tru (d_call (G .is_tuple) hr (by rfl) (T.mgF .is_tuple) (T.kp .is_tuple) (T.bd .is_tuple) (da_cons (d_item (d_var 0) (d_int)) (da_nil)))))))) (ds_one (ds_ret (d_bl))) (ds_nil))
    (ds_one (ds_ret (d_all (by rfl) (by rfl) T.b_all (d_lc (by rfl) (by exact nd) (di_seq (d_item (d_var 0) (d_int))) (blkOk_by (own := [((Str.ofString "part"), 2)]) (N := n_is_row_term) (sc := defScope s_is_row_term) (by decide +kernel)) (fun _ _ _ _ _ => pg_name (i := 2) (by exact nd) (by rfl) (by exact Or.inl rfl)) (g_name) (fun _ _ _ _ _ => dts_nil) (fun _ _ _ _ _ => d_call (G .is_term_within) hr (by rfl) (T.mgF .is_term_within) (T.kp .is_term_within) (T.bd .is_term_within) (da_cons (d_var 2) (da_cons (d_sub (d_var 1) (d_int)) (da_nil)))))))))
def b_is_way (c : Fid → FD) : FS :=
  sSeq (sIf (fOrT (fNotT (fTru (fCall (c .is_tuple_of) (faCons (fV 0) (faCons (fC (.int 3)) (faNil)))))) (fOrT (fNotT (fTru (fCall (c .is_text) (faCons (fBin ixG (fV 0) (fC (.int 0))) (faNil))))) (fNotT (fTru (fCall (c .is_bits_of) (faCons (fBin ixG (fV 0) (fC (.int 1))) (faCons (fC (.int 0)) (faCons (fC (.int 400)) (faNil))))))))) (sRet (fC (.bl false))) (sNx)) (sRet (fCall (c .is_term_within) (faCons (fBin ixG (fV 0) (fC (.int 2))) (faCons (fV 1) (faNil)))))
theorem ok_is_way (T : Txt K mg ad fd) (G : Gs P w K mg base ad fd n c) : FnOk P w K mg base CX0 (n + 1) (ad .is_way) (fd .is_way) (ps .is_way) (spD (fnD 2 2 (b_is_way c))) := by
  have nd := sc_is_way.nd
  exact d_fn (T.fn .is_way) sc_is_way (fun cdv A outer s H E hr =>
    ds_cons (ds_if (PW.pt (dw_or (dt_not (dt_tru (d_call (G .is_tuple_of) hr (by rfl) (T.mgF .is_tuple_of) (T.kp .is_tuple_of) (T.bd .is_tuple_of) (da_cons (d_var 0) (da_cons (d_int) (da_nil)))))) (dw_or (dt_not (dt_tru (d_call (G .is_text) hr (by rfl) (T.mgF .is_text) (T.kp .is_text) (T.bd .is_text) (da_cons (d_item (d_var 0) (d_int)) (da_nil))))) (dw_or1 (dt_not (dt_tru (d_call (G .is_bits_of) hr (by rfl) (T.mgF .is_bits_of) (T.kp .is_bits_of) (T.bd .is_bits_of) (da_cons (d_item (d_var 0) (d_int)) (da_cons (d_int) (da_cons ((d_globI (i := 400) (by rfl) T.c_MOST_BITS)) (da_nil))))))))))) (ds_one (ds_ret (d_bl))) (ds_nil))
    (ds_one (ds_ret (d_call (G .is_term_within) hr (by rfl) (T.mgF .is_term_within) (T.kp .is_term_within) (T.bd .is_term_within) (da_cons (d_item (d_var 0) (d_int)) (da_cons (d_var 1) (da_nil)))))))
def b_is_either_term (c : Fid → FD) : FS :=
  sSeq (sIf (fOrT (fT (fBin neG (fApp lenG (f1 (fV 0))) (fC (.int 2)))) (fOrT (fNotT (fTru (fCall (c .is_tuple) (faCons (fBin ixG (fV 0) (fC (.int 1))) (faNil))))) (fNotT (fTru (fApp allG (f1 (fLc (fItems (fBin ixG (fV 0) (fC (.int 1)))) (stN 2) (fYes) (fCall (c .is_way) (faCons (fV 2) (faCons (fBin subG (fV 1) (fC (.int 1))) (faNil)))) [2]))))))) (sRet (fC (.bl false))) (sNx)) (sRet (fBin eqG (fLenSc (fItems (fBin ixG (fV 0) (fC (.int 1)))) (stN 2) (fBin ixG (fV 2) (fC (.int 0))) [2]) (fApp lenG (f1 (fBin ixG (fV 0) (fC (.int 1)))))))
theorem ok_is_either_term (T : Txt K mg ad fd) (G : Gs P w K mg base ad fd n c) : FnOk P w K mg base CX0 (n + 1) (ad .is_either_term) (fd .is_either_term) (ps .is_either_term) (spD (fnD 2 3 (b_is_either_term c))) := by
  have nd := sc_is_either_term.nd
  exact d_fn (T.fn .is_either_term) sc_is_either_term (fun cdv A outer s H E hr =>
    ds_cons (ds_if (PW.pt (dw_or (dt_ne hr.units (d_len (by rfl) T.b_len (d_var 0)) (d_int)) (dw_or (dt_not (dt_tru (d_call (G .is_tuple) hr (by rfl) (T.mgF .is_tuple) (T.kp .is_tuple) (T.bd .is_tuple) (da_cons (d_item (d_var 0) (d_int)) (da_nil))))) (dw_or1 (dt_not (dt_tru (d_all (by rfl) (by rfl) T.b_all (d_lc (by rfl) (by exact nd) (di_seq (d_item (d_var 0) (d_int))) (blkOk_by (own := [((Str.ofString "way"), 2)]) (N := n_is_either_term) (sc := defScope s_is_either_term) (by decide +kernel)) (fun _ _ _ _ _ => pg_name (i := 2) (by exact nd) (by rfl) (by exact Or.inl rfl)) (g_name) (fun _ _ _ _ _ => dts_nil) (fun _ _ _ _ _ => d_call (G .is_way) hr (by rfl) (T.mgF .is_way) (T.kp .is_way) (T.bd .is_way) (da_cons (d_var 2) (da_cons (d_sub (d_var 1) (d_int)) (da_nil)))))))))))) (ds_one (ds_ret (d_bl))) (ds_nil))
    (ds_one (ds_ret (d_eq hr.units (d_lenSc (by rfl) T.b_len (by rfl) (by exact nd) (di_seq (d_item (d_var 0) (d_int))) (blkOk_by (own := [((Str.ofString "way"), 2)]) (N := n_is_either_term) (sc := defScope s_is_either_term) (by decide +kernel)) (fun _ _ _ _ _ => pg_name (i := 2) (by exact nd) (by rfl) (by exact Or.inl rfl)) (g_name) (fun _ _ _ _ _ => d_item (d_var 2) (d_int))) (d_len (by rfl) T.b_len (d_item (d_var 0) (d_int)))))))
def b_is_times_term (c : Fid → FD) : FS :=
  sRet (fAnd (fBin eqG (fApp lenG (f1 (fV 0))) (fC (.int 3))) (fAnd (fCall (c .is_within) (faCons (fBin ixG (fV 0) (fC (.int 1))) (faCons (fC (.int 0)) (faCons (fC (.int 8)) (faNil))))) (fCall (c .is_term_within) (faCons (fBin ixG (fV 0) (fC (.int 2))) (faCons (fBin subG (fV 1) (fC (.int 1))) (faNil))))))
theorem ok_is_times_term (T : Txt K mg ad fd) (G : Gs P w K mg base ad fd n c) : FnOk P w K mg base CX0 (n + 1) (ad .is_times_term) (fd .is_times_term) (ps .is_times_term) (spD (fnD 2 2 (b_is_times_term c))) := by
  have nd := sc_is_times_term.nd
  exact d_fn (T.fn .is_times_term) sc_is_times_term (fun cdv A outer s H E hr =>
    ds_one (ds_ret (d_and (d_eq hr.units (d_len (by rfl) T.b_len (d_var 0)) (d_int)) (d_and (d_call (G .is_within) hr (by rfl) (T.mgF .is_within) (T.kp .is_within) (T.bd .is_within) (da_cons (d_item (d_var 0) (d_int)) (da_cons (d_int) (da_cons ((d_globI (i := 8) (by rfl) T.c_MOST_TIMES)) (da_nil))))) (d_one (d_call (G .is_term_within) hr (by rfl) (T.mgF .is_term_within) (T.kp .is_term_within) (T.bd .is_term_within) (da_cons (d_item (d_var 0) (d_int)) (da_cons (d_sub (d_var 1) (d_int)) (da_nil)))))))))
def b_is_two_part_term (c : Fid → FD) : FS :=
  sRet (fAnd (fBin eqG (fApp lenG (f1 (fV 0))) (fC (.int 3))) (fAnd (fCall (c .is_term_within) (faCons (fBin ixG (fV 0) (fC (.int 1))) (faCons (fBin subG (fV 1) (fC (.int 1))) (faNil)))) (fCall (c .is_term_within) (faCons (fBin ixG (fV 0) (fC (.int 2))) (faCons (fBin subG (fV 1) (fC (.int 1))) (faNil))))))
theorem ok_is_two_part_term (T : Txt K mg ad fd) (G : Gs P w K mg base ad fd n c) : FnOk P w K mg base CX0 (n + 1) (ad .is_two_part_term) (fd .is_two_part_term) (ps .is_two_part_term) (spD (fnD 2 2 (b_is_two_part_term c))) := by
  have nd := sc_is_two_part_term.nd
  exact d_fn (T.fn .is_two_part_term) sc_is_two_part_term (fun cdv A outer s H E hr =>
    ds_one (ds_ret (d_and (d_eq hr.units (d_len (by rfl) T.b_len (d_var 0)) (d_int)) (d_and (d_call (G .is_term_within) hr (by rfl) (T.mgF .is_term_within) (T.kp .is_term_within) (T.bd .is_term_within) (da_cons (d_item (d_var 0) (d_int)) (da_cons (d_sub (d_var 1) (d_int)) (da_nil)))) (d_one (d_call (G .is_term_within) hr (by rfl) (T.mgF .is_term_within) (T.kp .is_term_within) (T.bd .is_term_within) (da_cons (d_item (d_var 0) (d_int)) (da_cons (d_sub (d_var 1) (d_int)) (da_nil)))))))))
def b_is_until_term (c : Fid → FD) : FS :=
  sRet (fAnd (fBin eqG (fApp lenG (f1 (fV 0))) (fC (.int 3))) (fAnd (fCall (c .is_bits_of) (faCons (fBin ixG (fV 0) (fC (.int 1))) (faCons (fC (.int 1)) (faCons (fC (.int 6)) (faNil))))) (fCall (c .is_term_within) (faCons (fBin ixG (fV 0) (fC (.int 2))) (faCons (fBin subG (fV 1) (fC (.int 1))) (faNil))))))
theorem ok_is_until_term (T : Txt K mg ad fd) (G : Gs P w K mg base ad fd n c) : FnOk P w K mg base CX0 (n + 1) (ad .is_until_term) (fd .is_until_term) (ps .is_until_term) (spD (fnD 2 2 (b_is_until_term c))) := by
  have nd := sc_is_until_term.nd
  exact d_fn (T.fn .is_until_term) sc_is_until_term (fun cdv A outer s H E hr =>
    ds_one (ds_ret (d_and (d_eq hr.units (d_len (by rfl) T.b_len (d_var 0)) (d_int)) (d_and (d_call (G .is_bits_of) hr (by rfl) (T.mgF .is_bits_of) (T.kp .is_bits_of) (T.bd .is_bits_of) (da_cons (d_item (d_var 0) (d_int)) (da_cons (d_int) (da_cons ((d_globI (i := 6) (by rfl) T.c_MOST_MARK)) (da_nil))))) (d_one (d_call (G .is_term_within) hr (by rfl) (T.mgF .is_term_within) (T.kp .is_term_within) (T.bd .is_term_within) (da_cons (d_item (d_var 0) (d_int)) (da_cons (d_sub (d_var 1) (d_int)) (da_nil)))))))))
def b_is_machine_row (c : Fid → FD) : FS :=
  sSeq (sIf (fOrT (fNotT (fTru (fCall (c .is_tuple_of) (faCons (fV 0) (faCons (fC (.int 3)) (faNil)))))) (fNotT (fTru (fCall (c .is_bits_of) (faCons (fBin ixG (fV 0) (fC (.int 2))) (faCons (fC (.int 1)) (faCons (fC (.int 4)) (faNil)))))))) (sRet (fC (.bl false))) (sNx)) (sRet (fAnd (fCall (c .is_within) (faCons (fBin ixG (fV 0) (fC (.int 0))) (faCons (fC (.int 0)) (faCons (fBin subG (fV 1) (fC (.int 1))) (faNil))))) (fCall (c .is_within) (faCons (fBin ixG (fV 0) (fC (.int 1))) (faCons (fC (.int 0)) (faCons (fBin subG (fV 1) (fC (.int 1))) (faNil)))))))
theorem ok_is_machine_row (T : Txt K mg ad fd) (G : Gs P w K mg base ad fd n c) : FnOk P w K mg base CX0 (n + 1) (ad .is_machine_row) (fd .is_machine_row) (ps .is_machine_row) (spD (fnD 2 2 (b_is_machine_row c))) := by
  have nd := sc_is_machine_row.nd
  exact d_fn (T.fn .is_machine_row) sc_is_machine_row (fun cdv A outer s H E hr =>
    ds_cons (ds_if (PW.pt (dw_or (dt_not (dt_tru (d_call (G .is_tuple_of) hr (by rfl) (T.mgF .is_tuple_of) (T.kp .is_tuple_of) (T.bd .is_tuple_of) (da_cons (d_var 0) (da_cons (d_int) (da_nil)))))) (dw_or1 (dt_not (dt_tru (d_call (G .is_bits_of) hr (by rfl) (T.mgF .is_bits_of) (T.kp .is_bits_of) (T.bd .is_bits_of) (da_cons (d_item (d_var 0) (d_int)) (da_cons (d_int) (da_cons ((d_globI (i := 4) (by rfl) T.c_MOST_CHECK)) (da_nil)))))))))) (ds_one (ds_ret (d_bl))) (ds_nil))
    (ds_one (ds_ret (d_and (d_call (G .is_within) hr (by rfl) (T.mgF .is_within) (T.kp .is_within) (T.bd .is_within) (da_cons (d_item (d_var 0) (d_int)) (da_cons (d_int) (da_cons (d_sub (d_var 1) (d_int)) (da_nil))))) (d_one (d_call (G .is_within) hr (by rfl) (T.mgF .is_within) (T.kp .is_within) (T.bd .is_within) (da_cons (d_item (d_var 0) (d_int)) (da_cons (d_int) (da_cons (d_sub (d_var 1) (d_int)) (da_nil))))))))))
def b_is_machine (c : Fid → FD) : FS :=
  sSeq (sIf (fOrT (fNotT (fTru (fCall (c .is_tuple) (faCons (fV 0) (faNil))))) (fNotT (fT (fChain leG leG (fC (.int 1)) (fApp lenG (f1 (fV 0))) (fC (.int 8)))))) (sRet (fC (.bl false))) (sNx)) (sSeq (sIf (fNotT (fTru (fApp allG (f1 (fLc (fItems (fV 0)) (stN 1) (fYes) (fCall (c .is_machine_row) (faCons (fV 1) (faCons (fApp lenG (f1 (fV 0))) (faNil)))) [1]))))) (sRet (fC (.bl false))) (sNx)) (sRet (fApp allG (f1 (fLc (fItems (fV 0)) (stN 1) (fYes) (fBin eqG (fApp lenG (f1 (fBin ixG (fV 1) (fC (.int 2))))) (fApp lenG (f1 (fBin ixG (fBin ixG (fV 0) (fC (.int 0))) (fC (.int 2)))))) [1])))))
theorem ok_is_machine (T : Txt K mg ad fd) (G : Gs P w K mg base ad fd n c) : FnOk P w K mg base CX0 (n + 1) (ad .is_machine) (fd .is_machine) (ps .is_machine) (spD (fnD 1 2 (b_is_machine c))) := by
  have nd := sc_is_machine.nd
  exact d_fn (T.fn .is_machine) sc_is_machine (fun cdv A outer s H E hr =>
    ds_cons (ds_if (PW.pt (dw_or (dt_not (dt_tru (d_call (G .is_tuple) hr (by rfl) (T.mgF .is_tuple) (T.kp .is_tuple) (T.bd .is_tuple) (da_cons (d_var 0) (da_nil))))) (dw_or1 (dt_not (dt_chain op_leD fits_le op_leD fits_le (d_int) (d_len (by rfl) T.b_len (d_var 0)) ((d_globI (i := 8) (by rfl) T.c_MOST_ROWS))))))) (ds_one (ds_ret (d_bl))) (ds_nil))
    (ds_cons (ds_if (dt_not (dt_tru (d_all (by rfl) (by rfl) T.b_all (d_lc (by rfl) (by exact nd) (di_seq (d_var 0)) (blkOk_by (own := [((Str.ofString "row"), 1)]) (N := n_is_machine) (sc := defScope s_is_machine) (by decide +kernel)) (fun _ _ _ _ _ => pg_name (i := 1) (by exact nd) (by rfl) (by exact Or.inl rfl)) (g_name) (fun _ _ _ _ _ => dts_nil) (fun _ _ _ _ _ => d_call (G .is_machine_row) hr (by rfl) (T.mgF .is_machine_row) (T.kp .is_machine_row) (T.bd .is_machine_row) (da_cons (d_var 1) (da_cons (d_len (by rfl) T.b_len (d_var 0)) (da_nil)))))))) (ds_one (ds_ret (d_bl))) (ds_nil))
    (ds_one (ds_ret (d_all (by rfl) (by rfl) T.b_all (d_lc (by rfl) (by exact nd) (di_seq (d_var 0)) (blkOk_by (own := [((Str.ofString "row"), 1)]) (N := n_is_machine) (sc := defScope s_is_machine) (by decide +kernel)) (fun _ _ _ _ _ => pg_name (i := 1) (by exact nd) (by rfl) (by exact Or.inl rfl)) (g_name) (fun _ _ _ _ _ => dts_nil) (fun _ _ _ _ _ => d_eq hr.units (d_len (by rfl) T.b_len (d_item (d_var 1) (d_int))) (d_len (by rfl) T.b_len (d_item (d_item (d_var 0) (d_int)) (d_int))))))))))
def b_is_checked_term (c : Fid → FD) : FS :=
  sRet (fAnd (fBin eqG (fApp lenG (f1 (fV 0))) (fC (.int 3))) (fAnd (fCall (c .is_machine) (faCons (fBin ixG (fV 0) (fC (.int 1))) (faNil))) (fCall (c .is_term_within) (faCons (fBin ixG (fV 0) (fC (.int 2))) (faCons (fBin subG (fV 1) (fC (.int 1))) (faNil))))))
theorem ok_is_checked_term (T : Txt K mg ad fd) (G : Gs P w K mg base ad fd n c) : FnOk P w K mg base CX0 (n + 1) (ad .is_checked_term) (fd .is_checked_term) (ps .is_checked_term) (spD (fnD 2 2 (b_is_checked_term c))) := by
  have nd := sc_is_checked_term.nd
  exact d_fn (T.fn .is_checked_term) sc_is_checked_term (fun cdv A outer s H E hr =>
    ds_one (ds_ret (d_and (d_eq hr.units (d_len (by rfl) T.b_len (d_var 0)) (d_int)) (d_and (d_call (G .is_machine) hr (by rfl) (T.mgF .is_machine) (T.kp .is_machine) (T.bd .is_machine) (da_cons (d_item (d_var 0) (d_int)) (da_nil))) (d_one (d_call (G .is_term_within) hr (by rfl) (T.mgF .is_term_within) (T.kp .is_term_within) (T.bd .is_term_within) (da_cons (d_item (d_var 0) (d_int)) (da_cons (d_sub (d_var 1) (d_int)) (da_nil)))))))))
def b_is_ref_term (c : Fid → FD) : FS :=
  sRet (fAnd (fBin eqG (fApp lenG (f1 (fV 0))) (fC (.int 2))) (fCall (c .is_name) (faCons (fBin ixG (fV 0) (fC (.int 1))) (faNil))))
theorem ok_is_ref_term (T : Txt K mg ad fd) (G : Gs P w K mg base ad fd n c) : FnOk P w K mg base CX0 (n + 1) (ad .is_ref_term) (fd .is_ref_term) (ps .is_ref_term) (spD (fnD 2 2 (b_is_ref_term c))) := by
  have nd := sc_is_ref_term.nd
  exact d_fn (T.fn .is_ref_term) sc_is_ref_term (fun cdv A outer s H E hr =>
    ds_one (ds_ret (d_and (d_eq hr.units (d_len (by rfl) T.b_len (d_var 0)) (d_int)) (d_one (d_call (G .is_name) hr (by rfl) (T.mgF .is_name) (T.kp .is_name) (T.bd .is_name) (da_cons (d_item (d_var 0) (d_int)) (da_nil)))))))
def b_is_any_term (c : Fid → FD) : FS :=
  sRet (fCall (c .is_term_within) (faCons (fV 0) (faCons (fC (.int 12)) (faNil))))
theorem ok_is_any_term (T : Txt K mg ad fd) (G : Gs P w K mg base ad fd n c) : FnOk P w K mg base CX0 (n + 1) (ad .is_any_term) (fd .is_any_term) (ps .is_any_term) (spD (fnD 1 1 (b_is_any_term c))) := by
  have nd := sc_is_any_term.nd
  exact d_fn (T.fn .is_any_term) sc_is_any_term (fun cdv A outer s H E hr =>
    ds_one (ds_ret (d_call (G .is_term_within) hr (by rfl) (T.mgF .is_term_within) (T.kp .is_term_within) (T.bd .is_term_within) (da_cons (d_var 0) (da_cons ((d_globI (i := 12) (by rfl) T.c_MOST_DEPTH)) (da_nil))))))
def b_is_entry (c : Fid → FD) : FS :=
  sRet (fAnd (fCall (c .is_tuple_of) (faCons (fV 0) (faCons (fC (.int 2)) (faNil)))) (fAnd (fCall (c .is_name) (faCons (fBin ixG (fV 0) (fC (.int 0))) (faNil))) (fCall (c .is_any_term) (faCons (fBin ixG (fV 0) (fC (.int 1))) (faNil)))))
theorem ok_is_entry (T : Txt K mg ad fd) (G : Gs P w K mg base ad fd n c) : FnOk P w K mg base CX0 (n + 1) (ad .is_entry) (fd .is_entry) (ps .is_entry) (spD (fnD 1 1 (b_is_entry c))) := by
  have nd := sc_is_entry.nd
  exact d_fn (T.fn .is_entry) sc_is_entry (fun cdv A outer s H E hr =>
    ds_one (ds_ret (d_and (d_call (G .is_tuple_of) hr (by rfl) (T.mgF .is_tuple_of) (T.kp .is_tuple_of) (T.bd .is_tuple_of) (da_cons (d_var 0) (da_cons (d_int) (da_nil)))) (d_and (d_call (G .is_name) hr (by rfl) (T.mgF .is_name) (T.kp .is_name) (T.bd .is_name) (da_cons (d_item (d_var 0) (d_int)) (da_nil))) (d_one (d_call (G .is_any_term) hr (by rfl) (T.mgF .is_any_term) (T.kp .is_any_term) (T.bd .is_any_term) (da_cons (d_item (d_var 0) (d_int)) (da_nil))))))))
def b_is_any_sheet (c : Fid → FD) : FS :=
  sSeq (sIf (fOrT (fNotT (fTru (fCall (c .is_tuple_of) (faCons (fV 0) (faCons (fC (.int 2)) (faNil)))))) (fOrT (fNotT (fTru (fCall (c .is_tuple) (faCons (fBin ixG (fV 0) (fC (.int 1))) (faNil))))) (fNotT (fTru (fBin ixG (fV 0) (fC (.int 1))))))) (sRet (fC (.bl false))) (sNx)) (sSeq (sIf (fNotT (fTru (fApp allG (f1 (fLc (fItems (fBin ixG (fV 0) (fC (.int 1)))) (stN 5) (fYes) (fCall (c .is_entry) (faCons (fV 5) (faNil))) [5]))))) (sRet (fC (.bl false))) (sNx)) (sSeq (sSet 1 (fLc (fItems (fBin ixG (fV 0) (fC (.int 1)))) (stT 2 (stsC (stN 2) (stsC (stN 3) (stsN)))) (fYes) (fV 2) [2, 3])) (sSeq (sIf (fOrT (fNotT (fTru (fCall (c .is_ascending) (faCons (fV 1) (faNil))))) (fOrT (fNotT (fTru (fCall (c .is_string) (faCons (fBin ixG (fV 0) (fC (.int 0))) (faNil))))) (fT (fBin notInG (fBin ixG (fV 0) (fC (.int 0))) (fV 1))))) (sRet (fC (.bl false))) (sNx)) (sRet (fApp allG (f1 (fLc2 (fItems (fBin ixG (fV 0) (fC (.int 1)))) (stT 2 (stsC (stN 3) (stsC (stN 4) (stsN)))) (fItems (fCall (c .refs_of) (faCons (fV 4) (faNil)))) (stN 2) (fBin inG (fV 2) (fV 1)) [3, 4, 2] [2])))))))
theorem ok_is_any_sheet (T : Txt K mg ad fd) (G : Gs P w K mg base ad fd n c) : FnOk P w K mg base CX0 (n + 1) (ad .is_any_sheet) (fd .is_any_sheet) (ps .is_any_sheet) (spD (fnD 1 6 (b_is_any_sheet c))) := by
  have nd := sc_is_any_sheet.nd
  exact d_fn (T.fn .is_any_sheet) sc_is_any_sheet (fun cdv A outer s H E hr =>
    ds_cons (ds_if (PW.pt (dw_or (dt_not (dt_tru (d_call (G .is_tuple_of) hr (by rfl) (T.mgF .is_tuple_of) (T.kp .is_tuple_of) (T.bd .is_tuple_of) (da_cons (d_var 0) (da_cons (d_int) (da_nil)))))) (dw_or (dt_not (dt_tru (d_call (G .is_tuple) hr (by rfl) (T.mgF .is_tuple) (T.kp .is_tuple) (T.bd .is_tuple) (da_cons (d_item (d_var 0) (d_int)) (da_nil))))) (dw_or1 (dt_not (dt_tru (d_item (d_var 0) (d_int)))))))) (ds_one (ds_ret (d_bl))) (ds_nil))
    (ds_cons (ds_if (dt_not (dt_tru (d_all (by rfl) (by rfl) T.b_all (d_lc (by rfl) (by exact nd) (di_seq (d_item (d_var 0) (d_int))) (blkOk_by (own := [((Str.ofString "entry"), 5)]) (N := n_is_any_sheet) (sc := defScope s_is_any_sheet) (by decide +kernel)) (fun _ _ _ _ _ => pg_name (i := 5) (by exact nd) (by rfl) (by exact Or.inl rfl)) (g_name) (fun _ _ _ _ _ => dts_nil) (fun _ _ _ _ _ => d_call (G .is_entry) hr (by rfl) (T.mgF .is_entry) (T.kp .is_entry) (T.bd .is_entry) (da_cons (d_var 5) (da_nil))))))) (ds_one (ds_ret (d_bl))) (ds_nil))
    (ds_cons (ds_set (i := 1) nd rfl (Or.inr rfl) (d_lc (by rfl) (by exact nd) (di_seq (d_item (d_var 0) (d_int))) (blkOk_by (own := [((Str.ofString "name"), 2), ((Str.ofString "_"), 3)]) (N := n_is_any_sheet) (sc := defScope s_is_any_sheet) (by decide +kernel)) (fun _ _ _ _ _ => pg_tup (by rfl) (pgs_cons (pg_name (i := 2) (by exact nd) (by rfl) (by exact Or.inl rfl)) (pgs_cons (pg_name (i := 3) (by exact nd) (by rfl) (by exact Or.inl rfl)) (pgs_nil)))) (g_tup (gs_cons (g_name) (gs_cons (g_name) (gs_nil)))) (fun _ _ _ _ _ => dts_nil) (fun _ _ _ _ _ => d_var 2)))
    (ds_cons (ds_if (PW.pt (dw_or (dt_not (dt_tru (d_call (G .is_ascending) hr (by rfl) (T.mgF .is_ascending) (T.kp .is_ascending) (T.bd .is_ascending) (da_cons (d_var 1) (da_nil))))) (dw_or (dt_not (dt_tru (d_call (G .is_string) hr (by rfl) (T.mgF .is_string) (T.kp .is_string) (T.bd .is_string) (da_cons (d_item (d_var 0) (d_int)) (da_nil))))) (dw_or1 (dt_notIn (d_item (d_var 0) (d_int)) (d_var 1)))))) (ds_one (ds_ret (d_bl))) (ds_nil))
    (ds_one (ds_ret (d_all (by rfl) (by rfl) T.b_all (d_lc2 (by rfl) (by exact nd) (di_seq (d_item (d_var 0) (d_int))) (blkOk_by (own := [((Str.ofString "_"), 3), ((Str.ofString "term"), 4), ((Str.ofString "name"), 2)]) (N := n_is_any_sheet) (sc := defScope s_is_any_sheet) (by decide +kernel)) (fun _ _ _ _ _ => pg_tup (by rfl) (pgs_cons (pg_name (i := 3) (by exact nd) (by rfl) (by exact Or.inl rfl)) (pgs_cons (pg_name (i := 4) (by exact nd) (by rfl) (by exact Or.inl rfl)) (pgs_nil)))) (g_tup (gs_cons (g_name) (gs_cons (g_name) (gs_nil)))) (fun _ _ _ _ _ => di_seq (d_call (G .refs_of) hr (by rfl) (T.mgF .refs_of) (T.kp .refs_of) (T.bd .refs_of) (da_cons (d_var 4) (da_nil)))) (fun _ _ _ _ _ => pg_name (i := 2) (by exact nd) (by rfl) (by exact Or.inl rfl)) (g_name) (fun _ _ _ _ _ => d_in (d_var 2) (d_var 1))))))))))
def b_parts_of (c : Fid → FD) : FS :=
  sSeq (sSet 1 (fBin ixG (fV 0) (fC (.int 0)))) (sSeq (sIf (fT (fBin eqG (fV 1) (fC (.str (Str.ofString "row"))))) (sRet (fApp lstG (f1 (fBin ixG (fV 0) (fC (.int 1)))))) (sNx)) (sSeq (sIf (fT (fBin eqG (fV 1) (fC (.str (Str.ofString "either"))))) (sRet (fLc (fItems (fBin ixG (fV 0) (fC (.int 1)))) (stN 2) (fYes) (fBin ixG (fV 2) (fC (.int 2))) [2])) (sNx)) (sSeq (sIf (fT (fBin inG (fV 1) (fTup (faCons (fC (.str (Str.ofString "counted"))) (faCons (fC (.str (Str.ofString "sized"))) (faNil)))))) (sRet (fLst (faCons (fBin ixG (fV 0) (fC (.int 1))) (faCons (fBin ixG (fV 0) (fC (.int 2))) (faNil))))) (sNx)) (sSeq (sIf (fT (fBin inG (fV 1) (fTup (faCons (fC (.str (Str.ofString "times"))) (faCons (fC (.str (Str.ofString "until"))) (faCons (fC (.str (Str.ofString "checked"))) (faNil))))))) (sRet (fLst (faCons (fBin ixG (fV 0) (fC (.int 2))) (faNil)))) (sNx)) (sRet (fLst (faNil)))))))
theorem ok_parts_of (T : Txt K mg ad fd) (G : Gs P w K mg base ad fd n c) : FnOk P w K mg base CX0 (n + 1) (ad .parts_of) (fd .parts_of) (ps .parts_of) (spD (fnD 1 3 (b_parts_of c))) := by
  have nd := sc_parts_of.nd
  exact d_fn (T.fn .parts_of) sc_parts_of (fun cdv A outer s H E hr =>
    ds_cons (ds_set (i := 1) nd rfl (Or.inl rfl) (d_item (d_var 0) (d_int)))
    (ds_cons (ds_if (dt_eq hr.units (d_var 1) (d_str)) (ds_one (ds_ret (d_lstC (by rfl) T.b_list (d_item (d_var 0) (d_int))))) (ds_nil))
    (ds_cons (ds_if (dt_eq hr.units (d_var 1) (d_str)) (ds_one (ds_ret (d_lc (by rfl) (by exact nd) (di_seq (d_item (d_var 0) (d_int))) (blkOk_by (own := [((Str.ofString "way"), 2)]) (N := n_parts_of) (sc := defScope s_parts_of) (by decide +kernel)) (fun _ _ _ _ _ => pg_name (i := 2) (by exact nd) (by rfl) (by exact Or.inl rfl)) (g_name) (fun _ _ _ _ _ => dts_nil) (fun _ _ _ _ _ => d_item (d_var 2) (d_int))))) (ds_nil))
    (ds_cons (ds_if (dt_in (d_var 1) (d_tup (da_cons (d_str) (da_cons (d_str) (da_nil))))) (ds_one (ds_ret (d_lst (da_cons (d_item (d_var 0) (d_int)) (da_cons (d_item (d_var 0) (d_int)) (da_nil)))))) (ds_nil))
    (ds_cons (ds_if (dt_in (d_var 1) (d_tup (da_cons (d_str) (da_cons (d_str) (da_cons (d_str) (da_nil)))))) (ds_one (ds_ret (d_lst (da_cons (d_item (d_var 0) (d_int)) (da_nil))))) (ds_nil))
    (ds_one (ds_ret (d_lst (da_nil)))))))))
def b_refs_of (c : Fid → FD) : FS :=
  sSeq (sIf (fT (fBin eqG (fBin ixG (fV 0) (fC (.int 0))) (fC (.str (Str.ofString "ref"))))) (sRet (fLst (faCons (fBin ixG (fV 0) (fC (.int 1))) (faNil)))) (sNx)) (sRet (fLc2 (fItems (fCall (c .parts_of) (faCons (fV 0) (faNil)))) (stN 1) (fItems (fCall (c .refs_of) (faCons (fV 1) (faNil)))) (stN 2) (fV 2) [1, 2] [2]))
theorem ok_refs_of (T : Txt K mg ad fd) (G : Gs P w K mg base ad fd n c) : FnOk P w K mg base CX0 (n + 1) (ad .refs_of) (fd .refs_of) (ps .refs_of) (spD (fnD 1 3 (b_refs_of c))) := by
  have nd := sc_refs_of.nd
  exact d_fn (T.fn .refs_of) sc_refs_of (fun cdv A outer s H E hr =>
    ds_cons (ds_if (dt_eq hr.units (d_item (d_var 0) (d_int)) (d_str)) (ds_one (ds_ret (d_lst (da_cons (d_item (d_var 0) (d_int)) (da_nil))))) (ds_nil))
    (ds_one (ds_ret (d_lc2 (by rfl) (by exact nd) (di_seq (d_call (G .parts_of) hr (by rfl) (T.mgF .parts_of) (T.kp .parts_of) (T.bd .parts_of) (da_cons (d_var 0) (da_nil)))) (blkOk_by (own := [((Str.ofString "part"), 1), ((Str.ofString "name"), 2)]) (N := n_refs_of) (sc := defScope s_refs_of) (by decide +kernel)) (fun _ _ _ _ _ => pg_name (i := 1) (by exact nd) (by rfl) (by exact Or.inl rfl)) (g_name) (fun _ _ _ _ _ => di_seq (d_call (G .refs_of) hr (by rfl) (T.mgF .refs_of) (T.kp .refs_of) (T.bd .refs_of) (da_cons (d_var 1) (da_nil)))) (fun _ _ _ _ _ => pg_name (i := 2) (by exact nd) (by rfl) (by exact Or.inl rfl)) (g_name) (fun _ _ _ _ _ => d_var 2)))))
def b_term_at (c : Fid → FD) : FS :=
  sSeq (sFor (fItems (fV 1)) (stN 2) (sSeq (sSet 3 (fCall (c .parts_of) (faCons (fV 0) (faNil)))) (sSeq (sIf (fT (fBin geG (fV 2) (fApp lenG (f1 (fV 3))))) (sRet (fC .non)) (sNx)) (sSet 0 (fBin ixG (fV 3) (fV 2)))))) (sRet (fV 0))
theorem ok_term_at (T : Txt K mg ad fd) (G : Gs P w K mg base ad fd n c) : FnOk P w K mg base CX0 (n + 1) (ad .term_at) (fd .term_at) (ps .term_at) (spD (fnD 2 4 (b_term_at c))) := by
  have nd := sc_term_at.nd
  exact d_fn (T.fn .term_at) sc_term_at (fun cdv A outer s H E hr =>
    ds_cons (ds_for PassesOwn.never rfl (di_seq (d_var 1)) (pg_name (i := 2) (by exact nd) (by rfl) (by exact Or.inl rfl)) (g_name) (ds_cons (ds_set (i := 3) nd rfl (Or.inl rfl) (d_call (G .parts_of) hr (by rfl) (T.mgF .parts_of) (T.kp .parts_of) (T.bd .parts_of) (da_cons (d_var 0) (da_nil))))
    (ds_cons (ds_if (dt_ge (d_var 2) (d_len (by rfl) T.b_len (d_var 3))) (ds_one (ds_ret (d_non))) (ds_nil))
    (ds_one (ds_set (i := 0) nd rfl (Or.inl rfl) (d_item (d_var 3) (d_var 2)))))))
    (ds_one (ds_ret (d_var 0))))
def b_paths_of (c : Fid → FD) : FS :=
  sSeq (sOwn 1 (faCons (fTup (faNil)) (faNil))) (sSeq (sSet 2 (fCall (c .parts_of) (faCons (fV 0) (faNil)))) (sSeq (sFor (fRng1 (fApp lenG (f1 (fV 2)))) (stN 3) (sExp (fExtd (fV 1) (fLc (fItems (fCall (c .paths_of) (faCons (fBin ixG (fV 2) (fV 3)) (faNil)))) (stN 4) (fYes) (fTup (faCons (fV 3) (faStar (fV 4) (faNil)))) [4])))) (sRet (fV 1))))
theorem ok_paths_of (T : Txt K mg ad fd) (G : Gs P w K mg base ad fd n c) : FnOk P w K mg base CX0 (n + 1) (ad .paths_of) (fd .paths_of) (ps .paths_of) (spD (fnD 1 5 (b_paths_of c))) := by
  have nd := sc_paths_of.nd
  exact d_fn (T.fn .paths_of) sc_paths_of (fun cdv A outer s H E hr =>
    ds_cons (ds_own (i := 1) nd rfl (Or.inl rfl) (da_cons (d_tup (da_nil)) (da_nil)))
    (ds_cons (ds_set (i := 2) nd rfl (Or.inl rfl) (d_call (G .parts_of) hr (by rfl) (T.mgF .parts_of) (T.kp .parts_of) (T.bd .parts_of) (da_cons (d_var 0) (da_nil))))
    (ds_cons (ds_for PassesOwn.never rfl (di_range1 (by rfl) T.b_range (d_len (by rfl) T.b_len (d_var 2))) (pg_name (i := 3) (by exact nd) (by rfl) (by exact Or.inr rfl)) (g_name) (ds_one (ds_expr (d_extend (d_var 1) (d_lc (by rfl) (by exact nd) (di_seq (d_call (G .paths_of) hr (by rfl) (T.mgF .paths_of) (T.kp .paths_of) (T.bd .paths_of) (da_cons (d_item (d_var 2) (d_var 3)) (da_nil)))) (blkOk_by (own := [((Str.ofString "path"), 4)]) (N := n_paths_of) (sc := defScope s_paths_of) (by decide +kernel)) (fun _ _ _ _ _ => pg_name (i := 4) (by exact nd) (by rfl) (by exact Or.inl rfl)) (g_name) (fun _ _ _ _ _ => dts_nil) (fun _ _ _ _ _ => d_tup (da_cons (d_var 3) (da_star (d_var 4) (da_nil)))))))))
    (ds_one (ds_ret (d_var 1))))))
def b_term_of_name (c : Fid → FD) : FS :=
  sSeq (sFor (fItems (fBin ixG (fV 0) (fC (.int 1)))) (stT 2 (stsC (stN 2) (stsC (stN 3) (stsN)))) (sIf (fT (fBin eqG (fV 2) (fV 1))) (sRet (fV 3)) (sNx))) (sRet (fC .non))
theorem ok_term_of_name (T : Txt K mg ad fd) (G : Gs P w K mg base ad fd n c) : FnOk P w K mg base CX0 (n + 1) (ad .term_of_name) (fd .term_of_name) (ps .term_of_name) (spD (fnD 2 4 (b_term_of_name c))) := by
  have nd := sc_term_of_name.nd
  exact d_fn (T.fn .term_of_name) sc_term_of_name (fun cdv A outer s H E hr =>
    ds_cons (ds_for PassesOwn.never rfl (di_seq (d_item (d_var 0) (d_int))) (pg_tup (by rfl) (pgs_cons (pg_name (i := 2) (by exact nd) (by rfl) (by exact Or.inl rfl)) (pgs_cons (pg_name (i := 3) (by exact nd) (by rfl) (by exact Or.inl rfl)) (pgs_nil)))) (g_tup (gs_cons (g_name) (gs_cons (g_name) (gs_nil)))) (ds_one (ds_if (dt_eq hr.units (d_var 2) (d_var 1)) (ds_one (ds_ret (d_var 3))) (ds_nil))))
    (ds_one (ds_ret (d_non))))
def b_is_place_of (c : Fid → FD) : FS :=
  sSeq (sIf (fOrT (fNotT (fTru (fCall (c .is_tuple_of) (faCons (fV 1) (faCons (fC (.int 2)) (faNil)))))) (fOrT (fNotT (fTru (fCall (c .is_string) (faCons (fBin ixG (fV 1) (fC (.int 0))) (faNil))))) (fNotT (fTru (fCall (c .is_path) (faCons (fBin ixG (fV 1) (fC (.int 1))) (faNil))))))) (sRet (fC (.bl false))) (sNx)) (sSeq (sSet 2 (fCall (c .term_of_name) (faCons (fV 0) (faCons (fBin ixG (fV 1) (fC (.int 0))) (faNil))))) (sRet (fAnd (fBin isNotG (fV 2) (fC .non)) (fBin isNotG (fCall (c .term_at) (faCons (fV 2) (faCons (fBin ixG (fV 1) (fC (.int 1))) (faNil)))) (fC .non)))))
theorem ok_is_place_of (T : Txt K mg ad fd) (G : Gs P w K mg base ad fd n c) : FnOk P w K mg base CX0 (n + 1) (ad .is_place_of) (fd .is_place_of) (ps .is_place_of) (spD (fnD 2 3 (b_is_place_of c))) := by
  have nd := sc_is_place_of.nd
  exact d_fn (T.fn .is_place_of) sc_is_place_of (fun cdv A outer s H E hr =>
    ds_cons (ds_if (PW.pt (dw_or (dt_not (dt_tru (d_call (G .is_tuple_of) hr (by rfl) (T.mgF .is_tuple_of) (T.kp .is_tuple_of) (T.bd .is_tuple_of) (da_cons (d_var 1) (da_cons (d_int) (da_nil)))))) (dw_or (dt_not (dt_tru (d_call (G .is_string) hr (by rfl) (T.mgF .is_string) (T.kp .is_string) (T.bd .is_string) (da_cons (d_item (d_var 1) (d_int)) (da_nil))))) (dw_or1 (dt_not (dt_tru (d_call (G .is_path) hr (by rfl) (T.mgF .is_path) (T.kp .is_path) (T.bd .is_path) (da_cons (d_item (d_var 1) (d_int)) (da_nil))))))))) (ds_one (ds_ret (d_bl))) (ds_nil))
    (ds_cons (ds_set (i := 2) nd rfl (Or.inl rfl) (d_call (G .term_of_name) hr (by rfl) (T.mgF .term_of_name) (T.kp .term_of_name) (T.bd .term_of_name) (da_cons (d_var 0) (da_cons (d_item (d_var 1) (d_int)) (da_nil)))))
    (ds_one (ds_ret (d_and (d_isNot (d_var 2) (d_non)) (d_one (d_isNot (d_call (G .term_at) hr (by rfl) (T.mgF .term_at) (T.kp .term_at) (T.bd .term_at) (da_cons (d_var 2) (da_cons (d_item (d_var 1) (d_int)) (da_nil)))) (d_non))))))))
def b_is_term (c : Fid → FD) : FS :=
  sRet (fCall (c .is_any_term) (faCons (fV 0) (faNil)))
theorem ok_is_term (T : Txt K mg ad fd) (G : Gs P w K mg base ad fd n c) : FnOk P w K mg base CX0 (n + 1) (ad .is_term) (fd .is_term) (ps .is_term) (spD (fnD 1 1 (b_is_term c))) := by
  have nd := sc_is_term.nd
  exact d_fn (T.fn .is_term) sc_is_term (fun cdv A outer s H E hr =>
    ds_one (ds_ret (d_call (G .is_any_term) hr (by rfl) (T.mgF .is_any_term) (T.kp .is_any_term) (T.bd .is_any_term) (da_cons (d_var 0) (da_nil)))))
def b_is_sheet (c : Fid → FD) : FS :=
  sRet (fCall (c .is_any_sheet) (faCons (fV 0) (faNil)))
theorem ok_is_sheet (T : Txt K mg ad fd) (G : Gs P w K mg base ad fd n c) : FnOk P w K mg base CX0 (n + 1) (ad .is_sheet) (fd .is_sheet) (ps .is_sheet) (spD (fnD 1 1 (b_is_sheet c))) := by
  have nd := sc_is_sheet.nd
  exact d_fn (T.fn .is_sheet) sc_is_sheet (fun cdv A outer s H E hr =>
    ds_one (ds_ret (d_call (G .is_any_sheet) hr (by rfl) (T.mgF .is_any_sheet) (T.kp .is_any_sheet) (T.bd .is_any_sheet) (da_cons (d_var 0) (da_nil)))))
end
end KK
end
section
set_option Elab.async false
set_option linter.all false
set_option maxRecDepth 100000
set_option maxHeartbeats 4000000
namespace KK
open PySem PySem.Spec PyProof.Rows L2 DL

section
variable {P : Program} {w : World} {K : PySem.W.Frag} {mg : Str → Option Value} {base : Heap} {ad : Fid → Addr} {fd : Fid → FuncData} {n : Nat} {c : Fid → FD}

def b_law_take (c : Fid → FD) : FS :=
  sSeq (sIf (fT (fBin eqG (fV 0) (fLst (faNil)))) (sRet (fC (.int 0))) (sNx)) (sRet (fBin modG (fApp intG (f1 (fPop (fV 0)))) (fV 1)))
theorem ok_law_take (T : Txt K mg ad fd) (G : Gs P w K mg base ad fd n c) : FnOk P w K mg base CX0 (n + 1) (ad .law_take) (fd .law_take) (ps .law_take) (spD (fnD 2 2 (b_law_take c))) := by
  have nd := sc_law_take.nd
  exact d_fn (T.fn .law_take) sc_law_take (fun cdv A outer s H E hr =>
    ds_cons (ds_if (dt_eq hr.units (d_var 0) (d_lst (da_nil))) (ds_one (ds_ret (d_int))) (ds_nil))
    (ds_one (ds_ret (d_mod (d_intC (by rfl) T.b_int (d_pop (d_var 0))) (d_var 1)))))
def b_law_bits (c : Fid → FD) : FS :=
  sRet (fMt joinG (fC (.str (Str.ofString ""))) (fLc (fRng1 (fV 1)) (stN 2) (fYes) (fBin ixG (fC (.str (Str.ofString "01"))) (fCall (c .law_take) (faCons (fV 0) (faCons (fC (.int 2)) (faNil))))) [2]))
theorem ok_law_bits (T : Txt K mg ad fd) (G : Gs P w K mg base ad fd n c) : FnOk P w K mg base CX0 (n + 1) (ad .law_bits) (fd .law_bits) (ps .law_bits) (spD (fnD 2 3 (b_law_bits c))) := by
  have nd := sc_law_bits.nd
  exact d_fn (T.fn .law_bits) sc_law_bits (fun cdv A outer s H E hr =>
    ds_one (ds_ret (d_join (d_str) (d_lc (by rfl) (by exact nd) (di_range1 (by rfl) T.b_range (d_var 1)) (blkOk_by (own := [((Str.ofString "_law_k"), 2)]) (N := n_law_bits) (sc := defScope s_law_bits) (by decide +kernel)) (fun _ _ _ _ _ => pg_name (i := 2) (by exact nd) (by rfl) (by exact Or.inl rfl)) (g_name) (fun _ _ _ _ _ => dts_nil) (fun _ _ _ _ _ => d_item (d_str) (d_call (G .law_take) hr (by rfl) (T.mgF .law_take) (T.kp .law_take) (T.bd .law_take) (da_cons (d_var 0) (da_cons (d_int) (da_nil)))))))))
def b_law_atom (c : Fid → FD) : FS :=
  sRet (fBin ixG (fLst (faCons (fV 1) (faCons (fBin addG (fBin ixG (fC (.str (Str.ofString "x.,-AZ09 ay"))) (fV 1)) (fApp strG (f1 (fV 1)))) (faCons (fApp strG (f1 (fV 1))) (faCons (fBin addG (fBin powG (fC (.int 10)) (fC (.int 39))) (fV 1)) (faCons (fBin subG (fUn negG (fBin powG (fC (.int 10)) (fC (.int 39)))) (fV 1)) (faCons (fBin subG (fUn negG (fC (.int 1))) (fV 1)) (faNil)))))))) (fCall (c .law_take) (faCons (fV 0) (faCons (fC (.int 6)) (faNil)))))
theorem ok_law_atom (T : Txt K mg ad fd) (G : Gs P w K mg base ad fd n c) : FnOk P w K mg base CX0 (n + 1) (ad .law_atom) (fd .law_atom) (ps .law_atom) (spD (fnD 2 2 (b_law_atom c))) := by
  have nd := sc_law_atom.nd
  exact d_fn (T.fn .law_atom) sc_law_atom (fun cdv A outer s H E hr =>
    ds_one (ds_ret (d_item (d_lst (da_cons (d_var 1) (da_cons (d_add (d_item (d_str) (d_var 1)) (d_strC (by rfl) T.b_str (d_var 1))) (da_cons (d_strC (by rfl) T.b_str (d_var 1)) (da_cons (d_add (d_pow (d_int) (d_int)) (d_var 1)) (da_cons (d_sub (d_neg (d_pow (d_int) (d_int))) (d_var 1)) (da_cons (d_sub (d_neg (d_int)) (d_var 1)) (da_nil)))))))) (d_call (G .law_take) hr (by rfl) (T.mgF .law_take) (T.kp .law_take) (T.bd .law_take) (da_cons (d_var 0) (da_cons (d_int) (da_nil)))))))
def b_law_label (c : Fid → FD) : FS :=
  sRet (fBin addG (fBin addG (fBin ixG (fLst (faCons (fC (.str (Str.ofString ""))) (faCons (fC (.str (Str.ofString "~"))) (faCons (fC (.str (Str.ofString "zz"))) (faCons (fC (.str (Str.ofString "A b"))) (faNil)))))) (fCall (c .law_take) (faCons (fV 0) (faCons (fC (.int 4)) (faNil))))) (fBin ixG (fC (.str (Str.ofString "abcdefgh"))) (fV 1))) (fBin mulG (fC (.str (Str.ofString "z"))) (fCall (c .law_take) (faCons (fV 0) (faCons (fC (.int 8)) (faNil))))))
theorem ok_law_label (T : Txt K mg ad fd) (G : Gs P w K mg base ad fd n c) : FnOk P w K mg base CX0 (n + 1) (ad .law_label) (fd .law_label) (ps .law_label) (spD (fnD 2 2 (b_law_label c))) := by
  have nd := sc_law_label.nd
  exact d_fn (T.fn .law_label) sc_law_label (fun cdv A outer s H E hr =>
    ds_one (ds_ret (d_add (d_add (d_item (d_lst (da_cons (d_str) (da_cons (d_str) (da_cons (d_str) (da_cons (d_str) (da_nil)))))) (d_call (G .law_take) hr (by rfl) (T.mgF .law_take) (T.kp .law_take) (T.bd .law_take) (da_cons (d_var 0) (da_cons (d_int) (da_nil))))) (d_item (d_str) (d_var 1))) (d_mul (d_str) (d_call (G .law_take) hr (by rfl) (T.mgF .law_take) (T.kp .law_take) (T.bd .law_take) (da_cons (d_var 0) (da_cons (d_int) (da_nil))))))))
def b_law_machine (c : Fid → FD) : FS :=
  sSeq (sSet 1 (fBin addG (fC (.int 1)) (fCall (c .law_take) (faCons (fV 0) (faCons (fC (.int 8)) (faNil)))))) (sSeq (sSet 2 (fBin addG (fC (.int 1)) (fCall (c .law_take) (faCons (fV 0) (faCons (fC (.int 4)) (faNil)))))) (sRet (fApp tupG (f1 (fLc (fRng1 (fV 1)) (stN 3) (fYes) (fTup (faCons (fCall (c .law_take) (faCons (fV 0) (faCons (fV 1) (faNil)))) (faCons (fCall (c .law_take) (faCons (fV 0) (faCons (fV 1) (faNil)))) (faCons (fCall (c .law_bits) (faCons (fV 0) (faCons (fV 2) (faNil)))) (faNil))))) [3])))))
theorem ok_law_machine (T : Txt K mg ad fd) (G : Gs P w K mg base ad fd n c) : FnOk P w K mg base CX0 (n + 1) (ad .law_machine) (fd .law_machine) (ps .law_machine) (spD (fnD 1 4 (b_law_machine c))) := by
  have nd := sc_law_machine.nd
  exact d_fn (T.fn .law_machine) sc_law_machine (fun cdv A outer s H E hr =>
    ds_cons (ds_set (i := 1) nd rfl (Or.inr rfl) (d_add (d_int) (d_call (G .law_take) hr (by rfl) (T.mgF .law_take) (T.kp .law_take) (T.bd .law_take) (da_cons (d_var 0) (da_cons (d_int) (da_nil))))))
    (ds_cons (ds_set (i := 2) nd rfl (Or.inr rfl) (d_add (d_int) (d_call (G .law_take) hr (by rfl) (T.mgF .law_take) (T.kp .law_take) (T.bd .law_take) (da_cons (d_var 0) (da_cons (d_int) (da_nil))))))
    (ds_one (ds_ret (d_tupC (by rfl) T.b_tuple (d_lc (by rfl) (by exact nd) (di_range1 (by rfl) T.b_range (d_var 1)) (blkOk_by (own := [((Str.ofString "_law_k"), 3)]) (N := n_law_machine) (sc := defScope s_law_machine) (by decide +kernel)) (fun _ _ _ _ _ => pg_name (i := 3) (by exact nd) (by rfl) (by exact Or.inl rfl)) (g_name) (fun _ _ _ _ _ => dts_nil) (fun _ _ _ _ _ => d_tup (da_cons (d_call (G .law_take) hr (by rfl) (T.mgF .law_take) (T.kp .law_take) (T.bd .law_take) (da_cons (d_var 0) (da_cons (d_var 1) (da_nil)))) (da_cons (d_call (G .law_take) hr (by rfl) (T.mgF .law_take) (T.kp .law_take) (T.bd .law_take) (da_cons (d_var 0) (da_cons (d_var 1) (da_nil)))) (da_cons (d_call (G .law_bits) hr (by rfl) (T.mgF .law_bits) (T.kp .law_bits) (T.bd .law_bits) (da_cons (d_var 0) (da_cons (d_var 2) (da_nil)))) (da_nil)))))))))))
def b_law_names (c : Fid → FD) : FS :=
  sSeq (sSet 2 (fC (.str (Str.ofString "abcdefghijklmnopqrstuvwxyz0123456789_")))) (sSeq (sSet 3 (fBin ixG (fLst (faCons (fC (.str (Str.ofString ""))) (faCons (fC (.str (Str.ofString "m"))) (faCons (fC (.str (Str.ofString "st"))) (faCons (fC (.str (Str.ofString "a_"))) (faNil)))))) (fCall (c .law_take) (faCons (fV 0) (faCons (fC (.int 4)) (faNil)))))) (sSeq (sSet 4 (fBin mulG (fBin ixG (fV 2) (fCall (c .law_take) (faCons (fV 0) (faCons (fC (.int 37)) (faNil))))) (fCall (c .law_take) (faCons (fV 0) (faCons (fC (.int 3)) (faNil)))))) (sRet (fLc (fRng1 (fV 1)) (stN 5) (fYes) (fBin addG (fBin addG (fV 3) (fBin ixG (fV 2) (fBin addG (fBin mulG (fC (.int 8)) (fV 5)) (fCall (c .law_take) (faCons (fV 0) (faCons (fC (.int 8)) (faNil))))))) (fV 4)) [5]))))
theorem ok_law_names (T : Txt K mg ad fd) (G : Gs P w K mg base ad fd n c) : FnOk P w K mg base CX0 (n + 1) (ad .law_names) (fd .law_names) (ps .law_names) (spD (fnD 2 6 (b_law_names c))) := by
  have nd := sc_law_names.nd
  exact d_fn (T.fn .law_names) sc_law_names (fun cdv A outer s H E hr =>
    ds_cons (ds_set (i := 2) nd rfl (Or.inr rfl) (d_str))
    (ds_cons (ds_set (i := 3) nd rfl (Or.inr rfl) (d_item (d_lst (da_cons (d_str) (da_cons (d_str) (da_cons (d_str) (da_cons (d_str) (da_nil)))))) (d_call (G .law_take) hr (by rfl) (T.mgF .law_take) (T.kp .law_take) (T.bd .law_take) (da_cons (d_var 0) (da_cons (d_int) (da_nil))))))
    (ds_cons (ds_set (i := 4) nd rfl (Or.inr rfl) (d_mul (d_item (d_var 2) (d_call (G .law_take) hr (by rfl) (T.mgF .law_take) (T.kp .law_take) (T.bd .law_take) (da_cons (d_var 0) (da_cons (d_int) (da_nil))))) (d_call (G .law_take) hr (by rfl) (T.mgF .law_take) (T.kp .law_take) (T.bd .law_take) (da_cons (d_var 0) (da_cons (d_int) (da_nil))))))
    (ds_one (ds_ret (d_lc (by rfl) (by exact nd) (di_range1 (by rfl) T.b_range (d_var 1)) (blkOk_by (own := [((Str.ofString "_law_k"), 5)]) (N := n_law_names) (sc := defScope s_law_names) (by decide +kernel)) (fun _ _ _ _ _ => pg_name (i := 5) (by exact nd) (by rfl) (by exact Or.inl rfl)) (g_name) (fun _ _ _ _ _ => dts_nil) (fun _ _ _ _ _ => d_add (d_add (d_var 3) (d_item (d_var 2) (d_add (d_mul (d_int) (d_var 5)) (d_call (G .law_take) hr (by rfl) (T.mgF .law_take) (T.kp .law_take) (T.bd .law_take) (da_cons (d_var 0) (da_cons (d_int) (da_nil))))))) (d_var 4))))))))
def b_law_same (c : Fid → FD) : FS :=
  sSeq (sIf (fTru (fUn (isiG2 "tuple" "list") (fV 1))) (sSeq (sIf (fOrT (fT (fBin neG (fUn (isiG "tuple") (fV 0)) (fUn (isiG "tuple") (fV 1)))) (fT (fBin neG (fUn (isiG "list") (fV 0)) (fUn (isiG "list") (fV 1))))) (sRet (fC (.bl false))) (sNx)) (sSeq (sIf (fT (fBin neG (fApp lenG (f1 (fV 0))) (fApp lenG (f1 (fV 1))))) (sRet (fC (.bl false))) (sNx)) (sSeq (sFor (fRng1 (fApp lenG (f1 (fV 1)))) (stN 2) (sIf (fNotT (fTru (fCall (c .law_same) (faCons (fBin ixG (fV 0) (fV 2)) (faCons (fBin ixG (fV 1) (fV 2)) (faNil)))))) (sRet (fC (.bl false))) (sNx))) (sRet (fC (.bl true)))))) (sNx)) (sSeq (sIf (fT (fBin isG (fV 1) (fC .non))) (sRet (fBin isG (fV 0) (fC .non))) (sNx)) (sSeq (sIf (fTru (fUn (isiG "bool") (fV 1))) (sRet (fAnd (fUn (isiG "bool") (fV 0)) (fBin eqG (fV 0) (fV 1)))) (sNx)) (sSeq (sIf (fTru (fUn (isiG "int") (fV 1))) (sRet (fAnd (fUn (isiG "int") (fV 0)) (fAnd (fNot (fUn (isiG "bool") (fV 0))) (fBin eqG (fV 0) (fV 1))))) (sNx)) (sRet (fAnd (fUn (isiG "str") (fV 0)) (fBin eqG (fV 0) (fV 1)))))))
theorem ok_law_same (T : Txt K mg ad fd) (G : Gs P w K mg base ad fd n c) : FnOk P w K mg base CX0 (n + 1) (ad .law_same) (fd .law_same) (ps .law_same) (spD (fnD 2 3 (b_law_same c))) := by
  have nd := sc_law_same.nd
  exact d_fn (T.fn .law_same) sc_law_same (fun cdv A outer s H E hr =>
    ds_cons (ds_if (dt_tru (d_isi2 (T := "tuple") (U := "list") t_tuple t_list (by rfl) T.b_isinstance (d_var 1) (by rfl) T.b_tuple (by decide +kernel) rfl T.b_list (by decide +kernel) (by decide +kernel) (by decide +kernel) (by decide +kernel) (by decide +kernel))) (ds_cons (ds_if (PW.pt (dw_or (dt_ne hr.units (d_isi (T := "tuple") t_tuple (by rfl) T.b_isinstance (d_var 0) (by rfl) T.b_tuple (by decide +kernel) (by decide +kernel) (by decide +kernel)) (d_isi (T := "tuple") t_tuple (by rfl) T.b_isinstance (d_var 1) (by rfl) T.b_tuple (by decide +kernel) (by decide +kernel) (by decide +kernel))) (dw_or1 (dt_ne hr.units (d_isi (T := "list") t_list (by rfl) T.b_isinstance (d_var 0) (by rfl) T.b_list (by decide +kernel) (by decide +kernel) (by decide +kernel)) (d_isi (T := "list") t_list (by rfl) T.b_isinstance (d_var 1) (by rfl) T.b_list (by decide +kernel) (by decide +kernel) (by decide +kernel)))))) (ds_one (ds_ret (d_bl))) (ds_nil))
    (ds_cons (ds_if (dt_ne hr.units (d_len (by rfl) T.b_len (d_var 0)) (d_len (by rfl) T.b_len (d_var 1))) (ds_one (ds_ret (d_bl))) (ds_nil))
    (ds_cons (ds_for PassesOwn.never rfl (di_range1 (by rfl) T.b_range (d_len (by rfl) T.b_len (d_var 1))) (pg_name (i := 2) (by exact nd) (by rfl) (by exact Or.inl rfl)) (g_name) (ds_one (ds_if (dt_not (dt_tru (d_call (G .law_same) hr (by rfl) (T.mgF .law_same) (T.kp .law_same) (T.bd .law_same) (da_cons (d_item (d_var 0) (d_var 2)) (da_cons (d_item (d_var 1) (d_var 2)) (da_nil)))))) (ds_one (ds_ret (d_bl))) (ds_nil))))
    (ds_one (ds_ret (d_bl)))))) (ds_nil))
    (ds_cons (ds_if (dt_is (d_var 1) (d_non)) (ds_one (ds_ret (d_is (d_var 0) (d_non)))) (ds_nil))
    (ds_cons (ds_if (dt_tru (d_isi (T := "bool") t_bool (by rfl) T.b_isinstance (d_var 1) (by rfl) T.b_bool (by decide +kernel) (by decide +kernel) (by decide +kernel))) (ds_one (ds_ret (d_and (d_isi (T := "bool") t_bool (by rfl) T.b_isinstance (d_var 0) (by rfl) T.b_bool (by decide +kernel) (by decide +kernel) (by decide +kernel)) (d_one (d_eq hr.units (d_var 0) (d_var 1)))))) (ds_nil))
    (ds_cons (ds_if (dt_tru (d_isi (T := "int") t_int (by rfl) T.b_isinstance (d_var 1) (by rfl) T.b_int (by decide +kernel) (by decide +kernel) (by decide +kernel))) (ds_one (ds_ret (d_and (d_isi (T := "int") t_int (by rfl) T.b_isinstance (d_var 0) (by rfl) T.b_int (by decide +kernel) (by decide +kernel) (by decide +kernel)) (d_and (d_not (d_isi (T := "bool") t_bool (by rfl) T.b_isinstance (d_var 0) (by rfl) T.b_bool (by decide +kernel) (by decide +kernel) (by decide +kernel))) (d_one (d_eq hr.units (d_var 0) (d_var 1))))))) (ds_nil))
    (ds_one (ds_ret (d_and (d_isi (T := "str") t_str (by rfl) T.b_isinstance (d_var 0) (by rfl) T.b_str (by decide +kernel) (by decide +kernel) (by decide +kernel)) (d_one (d_eq hr.units (d_var 0) (d_var 1))))))))))
def b_law_parts (c : Fid → FD) : FS :=
  sSeq (sSet 1 (fBin ixG (fV 0) (fC (.int 0)))) (sSeq (sIf (fT (fBin eqG (fV 1) (fC (.str (Str.ofString "row"))))) (sRet (fApp lstG (f1 (fBin ixG (fV 0) (fC (.int 1)))))) (sNx)) (sSeq (sIf (fT (fBin eqG (fV 1) (fC (.str (Str.ofString "either"))))) (sRet (fLc (fItems (fBin ixG (fV 0) (fC (.int 1)))) (stN 2) (fYes) (fBin ixG (fV 2) (fC (.int 2))) [2])) (sNx)) (sSeq (sIf (fT (fBin inG (fV 1) (fLst (faCons (fC (.str (Str.ofString "counted"))) (faCons (fC (.str (Str.ofString "sized"))) (faNil)))))) (sRet (fLst (faCons (fBin ixG (fV 0) (fC (.int 1))) (faCons (fBin ixG (fV 0) (fC (.int 2))) (faNil))))) (sNx)) (sSeq (sIf (fT (fBin inG (fV 1) (fLst (faCons (fC (.str (Str.ofString "times"))) (faCons (fC (.str (Str.ofString "until"))) (faCons (fC (.str (Str.ofString "checked"))) (faNil))))))) (sRet (fLst (faCons (fBin ixG (fV 0) (fC (.int 2))) (faNil)))) (sNx)) (sRet (fLst (faNil)))))))
theorem ok_law_parts (T : Txt K mg ad fd) (G : Gs P w K mg base ad fd n c) : FnOk P w K mg base CX0 (n + 1) (ad .law_parts) (fd .law_parts) (ps .law_parts) (spD (fnD 1 3 (b_law_parts c))) := by
  have nd := sc_law_parts.nd
  exact d_fn (T.fn .law_parts) sc_law_parts (fun cdv A outer s H E hr =>
    ds_cons (ds_set (i := 1) nd rfl (Or.inl rfl) (d_item (d_var 0) (d_int)))
    (ds_cons (ds_if (dt_eq hr.units (d_var 1) (d_str)) (ds_one (ds_ret (d_lstC (by rfl) T.b_list (d_item (d_var 0) (d_int))))) (ds_nil))
    (ds_cons (ds_if (dt_eq hr.units (d_var 1) (d_str)) (ds_one (ds_ret (d_lc (by rfl) (by exact nd) (di_seq (d_item (d_var 0) (d_int))) (blkOk_by (own := [((Str.ofString "_law_way"), 2)]) (N := n_law_parts) (sc := defScope s_law_parts) (by decide +kernel)) (fun _ _ _ _ _ => pg_name (i := 2) (by exact nd) (by rfl) (by exact Or.inl rfl)) (g_name) (fun _ _ _ _ _ => dts_nil) (fun _ _ _ _ _ => d_item (d_var 2) (d_int))))) (ds_nil))
    (ds_cons (ds_if (dt_in (d_var 1) (d_lst (da_cons (d_str) (da_cons (d_str) (da_nil))))) (ds_one (ds_ret (d_lst (da_cons (d_item (d_var 0) (d_int)) (da_cons (d_item (d_var 0) (d_int)) (da_nil)))))) (ds_nil))
    (ds_cons (ds_if (dt_in (d_var 1) (d_lst (da_cons (d_str) (da_cons (d_str) (da_cons (d_str) (da_nil)))))) (ds_one (ds_ret (d_lst (da_cons (d_item (d_var 0) (d_int)) (da_nil))))) (ds_nil))
    (ds_one (ds_ret (d_lst (da_nil)))))))))
def b_law_paths (c : Fid → FD) : FS :=
  sSeq (sSet 2 (fLst (faCons (fV 1) (faNil)))) (sSeq (sSet 3 (fCall (c .law_parts) (faCons (fV 0) (faNil)))) (sSeq (sFor (fRng1 (fApp lenG (f1 (fV 3)))) (stN 4) (sSet 2 (fBin addG (fV 2) (fCall (c .law_paths) (faCons (fBin ixG (fV 3) (fV 4)) (faCons (fBin addG (fV 1) (fTup (faCons (fV 4) (faNil)))) (faNil))))))) (sRet (fV 2))))
theorem ok_law_paths (T : Txt K mg ad fd) (G : Gs P w K mg base ad fd n c) : FnOk P w K mg base CX0 (n + 1) (ad .law_paths) (fd .law_paths) (ps .law_paths) (spD (fnD 2 5 (b_law_paths c))) := by
  have nd := sc_law_paths.nd
  exact d_fn (T.fn .law_paths) sc_law_paths (fun cdv A outer s H E hr =>
    ds_cons (ds_set (i := 2) nd rfl (Or.inl rfl) (d_lst (da_cons (d_var 1) (da_nil))))
    (ds_cons (ds_set (i := 3) nd rfl (Or.inl rfl) (d_call (G .law_parts) hr (by rfl) (T.mgF .law_parts) (T.kp .law_parts) (T.bd .law_parts) (da_cons (d_var 0) (da_nil))))
    (ds_cons (ds_for PassesOwn.never rfl (di_range1 (by rfl) T.b_range (d_len (by rfl) T.b_len (d_var 3))) (pg_name (i := 4) (by exact nd) (by rfl) (by exact Or.inl rfl)) (g_name) (ds_one (ds_set (i := 2) nd rfl (Or.inl rfl) (d_add (d_var 2) (d_call (G .law_paths) hr (by rfl) (T.mgF .law_paths) (T.kp .law_paths) (T.bd .law_paths) (da_cons (d_item (d_var 3) (d_var 4)) (da_cons (d_add (d_var 1) (d_tup (da_cons (d_var 4) (da_nil)))) (da_nil))))))))
    (ds_one (ds_ret (d_var 2))))))
def b_law_at (c : Fid → FD) : FS :=
  sSeq (sFor (fItems (fV 1)) (stN 2) (sSet 0 (fBin ixG (fCall (c .law_parts) (faCons (fV 0) (faNil))) (fV 2)))) (sRet (fV 0))
theorem ok_law_at (T : Txt K mg ad fd) (G : Gs P w K mg base ad fd n c) : FnOk P w K mg base CX0 (n + 1) (ad .law_at) (fd .law_at) (ps .law_at) (spD (fnD 2 3 (b_law_at c))) := by
  have nd := sc_law_at.nd
  exact d_fn (T.fn .law_at) sc_law_at (fun cdv A outer s H E hr =>
    ds_cons (ds_for PassesOwn.never rfl (di_seq (d_var 1)) (pg_name (i := 2) (by exact nd) (by rfl) (by exact Or.inl rfl)) (g_name) (ds_one (ds_set (i := 0) nd rfl (Or.inl rfl) (d_item (d_call (G .law_parts) hr (by rfl) (T.mgF .law_parts) (T.kp .law_parts) (T.bd .law_parts) (da_cons (d_var 0) (da_nil))) (d_var 2)))))
    (ds_one (ds_ret (d_var 0))))
def b_law_put (c : Fid → FD) : FS :=
  sSeq (sIf (fT (fBin eqG (fV 1) (fTup (faNil)))) (sRet (fV 2)) (sNx)) (sSeq (sSet 3 (fCall (c .law_parts) (faCons (fV 0) (faNil)))) (sSeq (sSet 4 (fCall (c .law_put) (faCons (fBin ixG (fV 3) (fBin ixG (fV 1) (fC (.int 0)))) (faCons (fSl (fV 1) (foS (fC (.int 1))) (foN)) (faCons (fV 2) (faNil)))))) (sSeq (sIf (fT (fBin eqG (fBin ixG (fV 0) (fC (.int 0))) (fC (.str (Str.ofString "row"))))) (sRet (fTup (faCons (fC (.str (Str.ofString "row"))) (faCons (fBin addG (fBin addG (fSl (fBin ixG (fV 0) (fC (.int 1))) (foN) (foS (fBin ixG (fV 1) (fC (.int 0))))) (fTup (faCons (fV 4) (faNil)))) (fSl (fBin ixG (fV 0) (fC (.int 1))) (foS (fBin addG (fBin ixG (fV 1) (fC (.int 0))) (fC (.int 1)))) (foN))) (faNil))))) (sNx)) (sSeq (sIf (fT (fBin eqG (fBin ixG (fV 0) (fC (.int 0))) (fC (.str (Str.ofString "either"))))) (sSeq (sSet 5 (fBin ixG (fBin ixG (fV 0) (fC (.int 1))) (fBin ixG (fV 1) (fC (.int 0))))) (sRet (fTup (faCons (fC (.str (Str.ofString "either"))) (faCons (fBin addG (fBin addG (fSl (fBin ixG (fV 0) (fC (.int 1))) (foN) (foS (fBin ixG (fV 1) (fC (.int 0))))) (fTup (faCons (fTup (faCons (fBin ixG (fV 5) (fC (.int 0))) (faCons (fBin ixG (fV 5) (fC (.int 1))) (faCons (fV 4) (faNil))))) (faNil)))) (fSl (fBin ixG (fV 0) (fC (.int 1))) (foS (fBin addG (fBin ixG (fV 1) (fC (.int 0))) (fC (.int 1)))) (foN))) (faNil)))))) (sNx)) (sSeq (sIf (fAndT (fT (fBin inG (fBin ixG (fV 0) (fC (.int 0))) (fLst (faCons (fC (.str (Str.ofString "counted"))) (faCons (fC (.str (Str.ofString "sized"))) (faNil)))))) (fT (fBin eqG (fBin ixG (fV 1) (fC (.int 0))) (fC (.int 0))))) (sRet (fTup (faCons (fBin ixG (fV 0) (fC (.int 0))) (faCons (fV 4) (faCons (fBin ixG (fV 0) (fC (.int 2))) (faNil)))))) (sNx)) (sRet (fTup (faCons (fBin ixG (fV 0) (fC (.int 0))) (faCons (fBin ixG (fV 0) (fC (.int 1))) (faCons (fV 4) (faNil)))))))))))
theorem ok_law_put (T : Txt K mg ad fd) (G : Gs P w K mg base ad fd n c) : FnOk P w K mg base CX0 (n + 1) (ad .law_put) (fd .law_put) (ps .law_put) (spD (fnD 3 6 (b_law_put c))) := by
  have nd := sc_law_put.nd
  exact d_fn (T.fn .law_put) sc_law_put (fun cdv A outer s H E hr =>
    ds_cons (ds_if (dt_eq hr.units (d_var 1) (d_tup (da_nil))) (ds_one (ds_ret (d_var 2))) (ds_nil))
    (ds_cons (ds_set (i := 3) nd rfl (Or.inl rfl) (d_call (G .law_parts) hr (by rfl) (T.mgF .law_parts) (T.kp .law_parts) (T.bd .law_parts) (da_cons (d_var 0) (da_nil))))
    (ds_cons (ds_set (i := 4) nd rfl (Or.inl rfl) (d_call (G .law_put) hr (by rfl) (T.mgF .law_put) (T.kp .law_put) (T.bd .law_put) (da_cons (d_item (d_var 3) (d_item (d_var 1) (d_int))) (da_cons (d_slice (d_var 1) (do_s (d_int)) (do_n)) (da_cons (d_var 2) (da_nil))))))
    (ds_cons (ds_if (dt_eq hr.units (d_item (d_var 0) (d_int)) (d_str)) (ds_one (ds_ret (d_tup (da_cons (d_str) (da_cons (d_add (d_add (d_slice (d_item (d_var 0) (d_int)) (do_n) (do_s (d_item (d_var 1) (d_int)))) (d_tup (da_cons (d_var 4) (da_nil)))) (d_slice (d_item (d_var 0) (d_int)) (do_s (d_add (d_item (d_var 1) (d_int)) (d_int))) (do_n))) (da_nil)))))) (ds_nil))
    (ds_cons (ds_if (dt_eq hr.units (d_item (d_var 0) (d_int)) (d_str)) (ds_cons (ds_set (i := 5) nd rfl (Or.inl rfl) (d_item (d_item (d_var 0) (d_int)) (d_item (d_var 1) (d_int))))
    (ds_one (ds_ret (d_tup (da_cons (d_str) (da_cons (d_add (d_add (d_slice (d_item (d_var 0) (d_int)) (do_n) (do_s (d_item (d_var 1) (d_int)))) (d_tup (da_cons (d_tup (da_cons (d_item (d_var 5) (d_int)) (da_cons (d_item (d_var 5) (d_int)) (da_cons (d_var 4) (da_nil))))) (da_nil)))) (d_slice (d_item (d_var 0) (d_int)) (do_s (d_add (d_item (d_var 1) (d_int)) (d_int))) (do_n))) (da_nil))))))) (ds_nil))
    (ds_cons (ds_if (PW.pt (dw_and (dt_in (d_item (d_var 0) (d_int)) (d_lst (da_cons (d_str) (da_cons (d_str) (da_nil))))) (dw_and1 (dt_eq hr.units (d_item (d_var 1) (d_int)) (d_int))))) (ds_one (ds_ret (d_tup (da_cons (d_item (d_var 0) (d_int)) (da_cons (d_var 4) (da_cons (d_item (d_var 0) (d_int)) (da_nil))))))) (ds_nil))
    (ds_one (ds_ret (d_tup (da_cons (d_item (d_var 0) (d_int)) (da_cons (d_item (d_var 0) (d_int)) (da_cons (d_var 4) (da_nil)))))))))))))
def b_law_places (c : Fid → FD) : FS :=
  sSeq (sSet 1 (fLst (faNil))) (sSeq (sFor (fItems (fBin ixG (fV 0) (fC (.int 1)))) (stN 2) (sSet 1 (fBin addG (fV 1) (fLc (fItems (fCall (c .law_paths) (faCons (fBin ixG (fV 2) (fC (.int 1))) (faCons (fTup (faNil)) (faNil))))) (stN 3) (fYes) (fTup (faCons (fBin ixG (fV 2) (fC (.int 0))) (faCons (fV 3) (faNil)))) [3])))) (sRet (fV 1)))
theorem ok_law_places (T : Txt K mg ad fd) (G : Gs P w K mg base ad fd n c) : FnOk P w K mg base CX0 (n + 1) (ad .law_places) (fd .law_places) (ps .law_places) (spD (fnD 1 4 (b_law_places c))) := by
  have nd := sc_law_places.nd
  exact d_fn (T.fn .law_places) sc_law_places (fun cdv A outer s H E hr =>
    ds_cons (ds_set (i := 1) nd rfl (Or.inl rfl) (d_lst (da_nil)))
    (ds_cons (ds_for PassesOwn.never rfl (di_seq (d_item (d_var 0) (d_int))) (pg_name (i := 2) (by exact nd) (by rfl) (by exact Or.inr rfl)) (g_name) (ds_one (ds_set (i := 1) nd rfl (Or.inl rfl) (d_add (d_var 1) (d_lc (by rfl) (by exact nd) (di_seq (d_call (G .law_paths) hr (by rfl) (T.mgF .law_paths) (T.kp .law_paths) (T.bd .law_paths) (da_cons (d_item (d_var 2) (d_int)) (da_cons (d_tup (da_nil)) (da_nil))))) (blkOk_by (own := [((Str.ofString "_law_path"), 3)]) (N := n_law_places) (sc := defScope s_law_places) (by decide +kernel)) (fun _ _ _ _ _ => pg_name (i := 3) (by exact nd) (by rfl) (by exact Or.inl rfl)) (g_name) (fun _ _ _ _ _ => dts_nil) (fun _ _ _ _ _ => d_tup (da_cons (d_item (d_var 2) (d_int)) (da_cons (d_var 3) (da_nil)))))))))
    (ds_one (ds_ret (d_var 1)))))
def b_law_laid (c : Fid → FD) : FS :=
  sSeq (sSet 3 (fTup (faNil))) (sSeq (sFor (fItems (fBin ixG (fV 0) (fC (.int 1)))) (stN 4) (sIf (fT (fBin eqG (fBin ixG (fV 4) (fC (.int 0))) (fBin ixG (fV 1) (fC (.int 0))))) (sSet 3 (fBin addG (fV 3) (fTup (faCons (fTup (faCons (fBin ixG (fV 4) (fC (.int 0))) (faCons (fCall (c .law_put) (faCons (fBin ixG (fV 4) (fC (.int 1))) (faCons (fBin ixG (fV 1) (fC (.int 1))) (faCons (fV 2) (faNil))))) (faNil)))) (faNil))))) (sSet 3 (fBin addG (fV 3) (fTup (faCons (fV 4) (faNil))))))) (sRet (fTup (faCons (fBin ixG (fV 0) (fC (.int 0))) (faCons (fV 3) (faNil))))))
theorem ok_law_laid (T : Txt K mg ad fd) (G : Gs P w K mg base ad fd n c) : FnOk P w K mg base CX0 (n + 1) (ad .law_laid) (fd .law_laid) (ps .law_laid) (spD (fnD 3 5 (b_law_laid c))) := by
  have nd := sc_law_laid.nd
  exact d_fn (T.fn .law_laid) sc_law_laid (fun cdv A outer s H E hr =>
    ds_cons (ds_set (i := 3) nd rfl (Or.inl rfl) (d_tup (da_nil)))
    (ds_cons (ds_for PassesOwn.never rfl (di_seq (d_item (d_var 0) (d_int))) (pg_name (i := 4) (by exact nd) (by rfl) (by exact Or.inl rfl)) (g_name) (ds_one (ds_if (dt_eq hr.units (d_item (d_var 4) (d_int)) (d_item (d_var 1) (d_int))) (ds_one (ds_set (i := 3) nd rfl (Or.inl rfl) (d_add (d_var 3) (d_tup (da_cons (d_tup (da_cons (d_item (d_var 4) (d_int)) (da_cons (d_call (G .law_put) hr (by rfl) (T.mgF .law_put) (T.kp .law_put) (T.bd .law_put) (da_cons (d_item (d_var 4) (d_int)) (da_cons (d_item (d_var 1) (d_int)) (da_cons (d_var 2) (da_nil))))) (da_nil)))) (da_nil)))))) (ds_one (ds_set (i := 3) nd rfl (Or.inl rfl) (d_add (d_var 3) (d_tup (da_cons (d_var 4) (da_nil)))))))))
    (ds_one (ds_ret (d_tup (da_cons (d_item (d_var 0) (d_int)) (da_cons (d_var 3) (da_nil))))))))
end
end KK
end
section
set_option Elab.async false
set_option linter.all false
set_option maxRecDepth 100000
set_option maxHeartbeats 4000000
namespace KK
open PySem PySem.Spec PyProof.Rows L2 DL

section
variable {P : Program} {w : World} {K : PySem.W.Frag} {mg : Str → Option Value} {base : Heap} {ad : Fid → Addr} {fd : Fid → FuncData} {n : Nat} {c : Fid → FD}

def b_law_loose (c : Fid → FD) : FS :=
  sSeq (sSet 3 (fCall (c .law_take) (faCons (fV 0) (faCons (fBin subG (fC (.int 11)) (fBin mulG (fC (.int 7)) (fApp intG (f1 (fBin eqG (fV 2) (fC (.int 0))))))) (faNil))))) (sSeq (sSet 4 (fCall (c .law_take) (faCons (fV 0) (faCons (fC (.int 4)) (faNil))))) (sSeq (sIf (fT (fBin eqG (fV 3) (fC (.int 0)))) (sRet (fTup (faCons (fC (.str (Str.ofString "bits"))) (faCons (fCall (c .law_bits) (faCons (fV 0) (faCons (fV 4) (faNil)))) (faNil))))) (sNx)) (sSeq (sIf (fT (fBin eqG (fV 3) (fC (.int 1)))) (sRet (fTup (faCons (fC (.str (Str.ofString "ref"))) (faCons (fBin ixG (fV 1) (fCall (c .law_take) (faCons (fV 0) (faCons (fApp lenG (f1 (fV 1))) (faNil))))) (faNil))))) (sNx)) (sSeq (sIf (fT (fBin eqG (fV 3) (fC (.int 2)))) (sRet (fTup (faCons (fC (.str (Str.ofString "width"))) (faCons (fCall (c .law_take) (faCons (fV 0) (faCons (fC (.int 9)) (faNil)))) (faNil))))) (sNx)) (sSeq (sIf (fT (fBin eqG (fV 3) (fC (.int 3)))) (sRet (fTup (faCons (fC (.str (Str.ofString "table"))) (faCons (fApp tupG (f1 (fLc (fRng1 (fV 4)) (stN 7) (fYes) (fTup (faCons (fCall (c .law_atom) (faCons (fV 0) (faCons (fV 7) (faNil)))) (faCons (fCall (c .law_bits) (faCons (fV 0) (faCons (fCall (c .law_take) (faCons (fV 0) (faCons (fC (.int 4)) (faNil)))) (faNil)))) (faNil)))) [7]))) (faNil))))) (sNx)) (sSeq (sIf (fT (fBin eqG (fV 3) (fC (.int 4)))) (sRet (fTup (faCons (fC (.str (Str.ofString "row"))) (faCons (fApp tupG (f1 (fLc (fRng1 (fV 4)) (stN 7) (fYes) (fCall (c .law_loose) (faCons (fV 0) (faCons (fV 1) (faCons (fBin subG (fV 2) (fC (.int 1))) (faNil))))) [7]))) (faNil))))) (sNx)) (sSeq (sIf (fT (fBin eqG (fV 3) (fC (.int 5)))) (sSeq (sSet 5 (fLc (fRng1 (fV 4)) (stN 7) (fYes) (fCall (c .law_bits) (faCons (fV 0) (faCons (fCall (c .law_take) (faCons (fV 0) (faCons (fC (.int 3)) (faNil)))) (faNil)))) [7])) (sRet (fTup (faCons (fC (.str (Str.ofString "either"))) (faCons (fApp tupG (f1 (fLc (fRng1 (fV 4)) (stN 7) (fYes) (fTup (faCons (fCall (c .law_label) (faCons (fV 0) (faCons (fV 7) (faNil)))) (faCons (fBin ixG (fV 5) (fV 7)) (faCons (fCall (c .law_loose) (faCons (fV 0) (faCons (fV 1) (faCons (fBin subG (fV 2) (fC (.int 1))) (faNil))))) (faNil))))) [7]))) (faNil)))))) (sNx)) (sSeq (sSet 6 (fCall (c .law_loose) (faCons (fV 0) (faCons (fV 1) (faCons (fBin subG (fV 2) (fC (.int 1))) (faNil)))))) (sSeq (sIf (fT (fBin eqG (fV 3) (fC (.int 6)))) (sRet (fTup (faCons (fC (.str (Str.ofString "times"))) (faCons (fCall (c .law_take) (faCons (fV 0) (faCons (fBin ixG (fLst (faCons (fC (.int 5)) (faCons (fC (.int 5)) (faCons (fC (.int 9)) (faNil))))) (fV 2)) (faNil)))) (faCons (fV 6) (faNil)))))) (sNx)) (sSeq (sIf (fT (fBin eqG (fV 3) (fC (.int 7)))) (sRet (fTup (faCons (fC (.str (Str.ofString "until"))) (faCons (fCall (c .law_bits) (faCons (fV 0) (faCons (fBin addG (fC (.int 1)) (fCall (c .law_take) (faCons (fV 0) (faCons (fC (.int 6)) (faNil))))) (faNil)))) (faCons (fV 6) (faNil)))))) (sNx)) (sSeq (sIf (fT (fBin eqG (fV 3) (fC (.int 8)))) (sRet (fTup (faCons (fC (.str (Str.ofString "checked"))) (faCons (fCall (c .law_machine) (faCons (fV 0) (faNil))) (faCons (fV 6) (faNil)))))) (sNx)) (sRet (fTup (faCons (fBin ixG (fLst (faCons (fC (.str (Str.ofString "counted"))) (faCons (fC (.str (Str.ofString "sized"))) (faNil)))) (fBin subG (fV 3) (fC (.int 9)))) (faCons (fV 6) (faCons (fCall (c .law_loose) (faCons (fV 0) (faCons (fV 1) (faCons (fBin subG (fV 2) (fC (.int 1))) (faNil))))) (faNil)))))))))))))))))
theorem ok_law_loose (T : Txt K mg ad fd) (G : Gs P w K mg base ad fd n c) : FnOk P w K mg base CX0 (n + 1) (ad .law_loose) (fd .law_loose) (ps .law_loose) (spD (fnD 3 8 (b_law_loose c))) := by
  have nd := sc_law_loose.nd
  exact d_fn (T.fn .law_loose) sc_law_loose (fun cdv A outer s H E hr =>
    ds_cons (ds_set (i := 3) nd rfl (Or.inl rfl) (d_call (G .law_take) hr (by rfl) (T.mgF .law_take) (T.kp .law_take) (T.bd .law_take) (da_cons (d_var 0) (da_cons (d_sub (d_int) (d_mul (d_int) (d_intC (by rfl) T.b_int (d_eq hr.units (d_var 2) (d_int))))) (da_nil)))))
    (ds_cons (ds_set (i := 4) nd rfl (Or.inl rfl) (d_call (G .law_take) hr (by rfl) (T.mgF .law_take) (T.kp .law_take) (T.bd .law_take) (da_cons (d_var 0) (da_cons (d_int) (da_nil)))))
    (ds_cons (ds_if (dt_eq hr.units (d_var 3) (d_int)) (ds_one (ds_ret (d_tup (da_cons (d_str) (da_cons (d_call (G .law_bits) hr (by rfl) (T.mgF .law_bits) (T.kp .law_bits) (T.bd .law_bits) (da_cons (d_var 0) (da_cons (d_var 4) (da_nil)))) (da_nil)))))) (ds_nil))
    (ds_cons (ds_if (dt_eq hr.units (d_var 3) (d_int)) (ds_one (ds_ret (d_tup (da_cons (d_str) (da_cons (d_item (d_var 1) (d_call (G .law_take) hr (by rfl) (T.mgF .law_take) (T.kp .law_take) (T.bd .law_take) (da_cons (d_var 0) (da_cons (d_len (by rfl) T.b_len (d_var 1)) (da_nil))))) (da_nil)))))) (ds_nil))
    (ds_cons (ds_if (dt_eq hr.units (d_var 3) (d_int)) (ds_one (ds_ret (d_tup (da_cons (d_str) (da_cons (d_call (G .law_take) hr (by rfl) (T.mgF .law_take) (T.kp .law_take) (T.bd .law_take) (da_cons (d_var 0) (da_cons (d_int) (da_nil)))) (da_nil)))))) (ds_nil))
    (ds_cons (ds_if (dt_eq hr.units (d_var 3) (d_int)) (ds_one (ds_ret (d_tup (da_cons (d_str) (da_cons (d_tupC (by rfl) T.b_tuple (d_lc (by rfl) (by exact nd) (di_range1 (by rfl) T.b_range (d_var 4)) (blkOk_by (own := [((Str.ofString "_law_k"), 7)]) (N := n_law_loose) (sc := defScope s_law_loose) (by decide +kernel)) (fun _ _ _ _ _ => pg_name (i := 7) (by exact nd) (by rfl) (by exact Or.inl rfl)) (g_name) (fun _ _ _ _ _ => dts_nil) (fun _ _ _ _ _ => d_tup (da_cons (d_call (G .law_atom) hr (by rfl) (T.mgF .law_atom) (T.kp .law_atom) (T.bd .law_atom) (da_cons (d_var 0) (da_cons (d_var 7) (da_nil)))) (da_cons (d_call (G .law_bits) hr (by rfl) (T.mgF .law_bits) (T.kp .law_bits) (T.bd .law_bits) (da_cons (d_var 0) (da_cons (d_call (G .law_take) hr (by rfl) (T.mgF .law_take) (T.kp .law_take) (T.bd .law_take) (da_cons (d_var 0) (da_cons (d_int) (da_nil)))) (da_nil)))) (da_nil)))))) (da_nil)))))) (ds_nil))
    (ds_cons (ds_if (dt_eq hr.units (d_var 3) (d_int)) (ds_one (ds_ret (d_tup (da_cons (d_str) (da_cons (d_tupC (by rfl) T.b_tuple (d_lc (by rfl) (by exact nd) (di_range1 (by rfl) T.b_range (d_var 4)) (blkOk_by (own := [((Str.ofString "_law_k"), 7)]) (N := n_law_loose) (sc := defScope s_law_loose) (by decide +kernel)) (fun _ _ _ _ _ => pg_name (i := 7) (by exact nd) (by rfl) (by exact Or.inl rfl)) (g_name) (fun _ _ _ _ _ => dts_nil) (fun _ _ _ _ _ => d_call (G .law_loose) hr (by rfl) (T.mgF .law_loose) (T.kp .law_loose) (T.bd .law_loose) (da_cons (d_var 0) (da_cons (d_var 1) (da_cons (d_sub (d_var 2) (d_int)) (da_nil))))))) (da_nil)))))) (ds_nil))
    (ds_cons (ds_if (dt_eq hr.units (d_var 3) (d_int)) (ds_cons (ds_set (i := 5) nd rfl (Or.inr rfl) (d_lc (by rfl) (by exact nd) (di_range1 (by rfl) T.b_range (d_var 4)) (blkOk_by (own := [((Str.ofString "_law_k"), 7)]) (N := n_law_loose) (sc := defScope s_law_loose) (by decide +kernel)) (fun _ _ _ _ _ => pg_name (i := 7) (by exact nd) (by rfl) (by exact Or.inl rfl)) (g_name) (fun _ _ _ _ _ => dts_nil) (fun _ _ _ _ _ => d_call (G .law_bits) hr (by rfl) (T.mgF .law_bits) (T.kp .law_bits) (T.bd .law_bits) (da_cons (d_var 0) (da_cons (d_call (G .law_take) hr (by rfl) (T.mgF .law_take) (T.kp .law_take) (T.bd .law_take) (da_cons (d_var 0) (da_cons (d_int) (da_nil)))) (da_nil))))))
    (ds_one (ds_ret (d_tup (da_cons (d_str) (da_cons (d_tupC (by rfl) T.b_tuple (d_lc (by rfl) (by exact nd) (di_range1 (by rfl) T.b_range (d_var 4)) (blkOk_by (own := [((Str.ofString "_law_k"), 7)]) (N := n_law_loose) (sc := defScope s_law_loose) (by decide +kernel)) (fun _ _ _ _ _ => pg_name (i := 7) (by exact nd) (by rfl) (by exact Or.inl rfl)) (g_name) (fun _ _ _ _ _ => dts_nil) (fun _ _ _ _ _ => d_tup (da_cons (d_call (G .law_label) hr (by rfl) (T.mgF .law_label) (T.kp .law_label) (T.bd .law_label) (da_cons (d_var 0) (da_cons (d_var 7) (da_nil)))) (da_cons (d_item (d_var 5) (d_var 7)) (da_cons (d_call (G .law_loose) hr (by rfl) (T.mgF .law_loose) (T.kp .law_loose) (T.bd .law_loose) (da_cons (d_var 0) (da_cons (d_var 1) (da_cons (d_sub (d_var 2) (d_int)) (da_nil))))) (da_nil))))))) (da_nil))))))) (ds_nil))
    (ds_cons (ds_set (i := 6) nd rfl (Or.inl rfl) (d_call (G .law_loose) hr (by rfl) (T.mgF .law_loose) (T.kp .law_loose) (T.bd .law_loose) (da_cons (d_var 0) (da_cons (d_var 1) (da_cons (d_sub (d_var 2) (d_int)) (da_nil))))))
    (ds_cons (ds_if (dt_eq hr.units (d_var 3) (d_int)) (ds_one (ds_ret (d_tup (da_cons (d_str) (da_cons (d_call (G .law_take) hr (by rfl) (T.mgF .law_take) (T.kp .law_take) (T.bd .law_take) (da_cons (d_var 0) (da_cons (d_item (d_lst (da_cons (d_int) (da_cons (d_int) (da_cons (d_int) (da_nil))))) (d_var 2)) (da_nil)))) (da_cons (d_var 6) (da_nil))))))) (ds_nil))
    (ds_cons (ds_if (dt_eq hr.units (d_var 3) (d_int)) (ds_one (ds_ret (d_tup (da_cons (d_str) (da_cons (d_call (G .law_bits) hr (by rfl) (T.mgF .law_bits) (T.kp .law_bits) (T.bd .law_bits) (da_cons (d_var 0) (da_cons (d_add (d_int) (d_call (G .law_take) hr (by rfl) (T.mgF .law_take) (T.kp .law_take) (T.bd .law_take) (da_cons (d_var 0) (da_cons (d_int) (da_nil))))) (da_nil)))) (da_cons (d_var 6) (da_nil))))))) (ds_nil))
    (ds_cons (ds_if (dt_eq hr.units (d_var 3) (d_int)) (ds_one (ds_ret (d_tup (da_cons (d_str) (da_cons (d_call (G .law_machine) hr (by rfl) (T.mgF .law_machine) (T.kp .law_machine) (T.bd .law_machine) (da_cons (d_var 0) (da_nil))) (da_cons (d_var 6) (da_nil))))))) (ds_nil))
    (ds_one (ds_ret (d_tup (da_cons (d_item (d_lst (da_cons (d_str) (da_cons (d_str) (da_nil)))) (d_sub (d_var 3) (d_int))) (da_cons (d_var 6) (da_cons (d_call (G .law_loose) hr (by rfl) (T.mgF .law_loose) (T.kp .law_loose) (T.bd .law_loose) (da_cons (d_var 0) (da_cons (d_var 1) (da_cons (d_sub (d_var 2) (d_int)) (da_nil))))) (da_nil)))))))))))))))))))
def b_law_loose_sheet (c : Fid → FD) : FS :=
  sSeq (sSet 1 (fCall (c .law_names) (faCons (fV 0) (faCons (fBin addG (fC (.int 1)) (fCall (c .law_take) (faCons (fV 0) (faCons (fC (.int 3)) (faNil))))) (faNil))))) (sSeq (sSet 2 (fLc (fRng1 (fApp lenG (f1 (fV 1)))) (stN 3) (fYes) (fTup (faCons (fBin ixG (fV 1) (fV 3)) (faCons (fCall (c .law_loose) (faCons (fV 0) (faCons (fV 1) (faCons (fBin subG (fC (.int 2)) (fApp intG (f1 (fBin gtG (fV 3) (fC (.int 0)))))) (faNil))))) (faNil)))) [3])) (sRet (fTup (faCons (fBin ixG (fV 1) (fCall (c .law_take) (faCons (fV 0) (faCons (fApp lenG (f1 (fV 1))) (faNil))))) (faCons (fApp tupG (f1 (fV 2))) (faNil))))))
theorem ok_law_loose_sheet (T : Txt K mg ad fd) (G : Gs P w K mg base ad fd n c) : FnOk P w K mg base CX0 (n + 1) (ad .law_loose_sheet) (fd .law_loose_sheet) (ps .law_loose_sheet) (spD (fnD 1 4 (b_law_loose_sheet c))) := by
  have nd := sc_law_loose_sheet.nd
  exact d_fn (T.fn .law_loose_sheet) sc_law_loose_sheet (fun cdv A outer s H E hr =>
    ds_cons (ds_set (i := 1) nd rfl (Or.inr rfl) (d_call (G .law_names) hr (by rfl) (T.mgF .law_names) (T.kp .law_names) (T.bd .law_names) (da_cons (d_var 0) (da_cons (d_add (d_int) (d_call (G .law_take) hr (by rfl) (T.mgF .law_take) (T.kp .law_take) (T.bd .law_take) (da_cons (d_var 0) (da_cons (d_int) (da_nil))))) (da_nil)))))
    (ds_cons (ds_setLc (i := 2) rfl nd rfl rfl (sw_true rfl rfl rfl (by decide +kernel)) (di_range1 (by rfl) T.b_range (d_len (by rfl) T.b_len (d_var 1))) (blkOk_by (own := [((Str.ofString "_law_k"), 3)]) (N := n_law_loose_sheet) (sc := defScope s_law_loose_sheet) (by decide +kernel)) (fun _ _ _ _ _ => pg_name (i := 3) (by exact nd) (by rfl) (by exact Or.inl rfl)) (g_name) (fun _ _ _ _ _ => dts_nil) (fun _ _ _ _ _ => d_tup (da_cons (d_item (d_var 1) (d_var 3)) (da_cons (d_call (G .law_loose) hr (by rfl) (T.mgF .law_loose) (T.kp .law_loose) (T.bd .law_loose) (da_cons (d_var 0) (da_cons (d_var 1) (da_cons (d_sub (d_int) (d_intC (by rfl) T.b_int (d_gt (d_var 3) (d_int)))) (da_nil))))) (da_nil)))))
    (ds_one (ds_ret (d_tup (da_cons (d_item (d_var 1) (d_call (G .law_take) hr (by rfl) (T.mgF .law_take) (T.kp .law_take) (T.bd .law_take) (da_cons (d_var 0) (da_cons (d_len (by rfl) T.b_len (d_var 1)) (da_nil))))) (da_cons (d_tupC (by rfl) T.b_tuple (d_var 2)) (da_nil))))))))
def b_law_deep (c : Fid → FD) : FS :=
  sSeq (sSet 2 (fTup (faCons (fC (.str (Str.ofString "bits"))) (faCons (fC (.str (Str.ofString "1"))) (faNil))))) (sSeq (sFor (fRng1 (fBin subG (fV 0) (fC (.int 1)))) (stN 3) (sSeq (sSet 4 (fLst (faCons (fTup (faCons (fC (.str (Str.ofString "row"))) (faCons (fTup (faCons (fV 2) (faNil))) (faNil)))) (faCons (fTup (faCons (fC (.str (Str.ofString "times"))) (faCons (fC (.int 2)) (faCons (fV 2) (faNil))))) (faCons (fTup (faCons (fC (.str (Str.ofString "until"))) (faCons (fC (.str (Str.ofString "0"))) (faCons (fV 2) (faNil))))) (faCons (fTup (faCons (fC (.str (Str.ofString "either"))) (faCons (fTup (faCons (fTup (faCons (fC (.str (Str.ofString "a"))) (faCons (fC (.str (Str.ofString "0"))) (faCons (fV 2) (faNil))))) (faNil))) (faNil)))) (faNil))))))) (sSeq (sSet 4 (fBin addG (fV 4) (fLst (faCons (fTup (faCons (fC (.str (Str.ofString "counted"))) (faCons (fV 2) (faCons (fTup (faCons (fC (.str (Str.ofString "row"))) (faCons (fTup (faNil)) (faNil)))) (faNil))))) (faCons (fTup (faCons (fC (.str (Str.ofString "sized"))) (faCons (fTup (faCons (fC (.str (Str.ofString "bits"))) (faCons (fC (.str (Str.ofString ""))) (faNil)))) (faCons (fV 2) (faNil))))) (faCons (fTup (faCons (fC (.str (Str.ofString "checked"))) (faCons (fTup (faCons (fTup (faCons (fC (.int 0)) (faCons (fC (.int 0)) (faCons (fC (.str (Str.ofString "0"))) (faNil))))) (faNil))) (faCons (fV 2) (faNil))))) (faNil))))))) (sSet 2 (fBin ixG (fV 4) (fBin modG (fApp intG (f1 (fBin addG (fV 3) (fV 1)))) (fC (.int 7)))))))) (sRet (fV 2)))
theorem ok_law_deep (T : Txt K mg ad fd) (G : Gs P w K mg base ad fd n c) : FnOk P w K mg base CX0 (n + 1) (ad .law_deep) (fd .law_deep) (ps .law_deep) (spD (fnD 2 5 (b_law_deep c))) := by
  have nd := sc_law_deep.nd
  exact d_fn (T.fn .law_deep) sc_law_deep (fun cdv A outer s H E hr =>
    ds_cons (ds_set (i := 2) nd rfl (Or.inl rfl) (d_tup (da_cons (d_str) (da_cons (d_str) (da_nil)))))
    (ds_cons (ds_for PassesOwn.never rfl (di_range1 (by rfl) T.b_range (d_sub (d_var 0) (d_int))) (pg_name (i := 3) (by exact nd) (by rfl) (by exact Or.inl rfl)) (g_name) (ds_cons (ds_set (i := 4) nd rfl (Or.inl rfl) (d_lst (da_cons (d_tup (da_cons (d_str) (da_cons (d_tup (da_cons (d_var 2) (da_nil))) (da_nil)))) (da_cons (d_tup (da_cons (d_str) (da_cons (d_int) (da_cons (d_var 2) (da_nil))))) (da_cons (d_tup (da_cons (d_str) (da_cons (d_str) (da_cons (d_var 2) (da_nil))))) (da_cons (d_tup (da_cons (d_str) (da_cons (d_tup (da_cons (d_tup (da_cons (d_str) (da_cons (d_str) (da_cons (d_var 2) (da_nil))))) (da_nil))) (da_nil)))) (da_nil)))))))
    (ds_cons (ds_set (i := 4) nd rfl (Or.inl rfl) (d_add (d_var 4) (d_lst (da_cons (d_tup (da_cons (d_str) (da_cons (d_var 2) (da_cons (d_tup (da_cons (d_str) (da_cons (d_tup (da_nil)) (da_nil)))) (da_nil))))) (da_cons (d_tup (da_cons (d_str) (da_cons (d_tup (da_cons (d_str) (da_cons (d_str) (da_nil)))) (da_cons (d_var 2) (da_nil))))) (da_cons (d_tup (da_cons (d_str) (da_cons (d_tup (da_cons (d_tup (da_cons (d_int) (da_cons (d_int) (da_cons (d_str) (da_nil))))) (da_nil))) (da_cons (d_var 2) (da_nil))))) (da_nil)))))))
    (ds_one (ds_set (i := 2) nd rfl (Or.inl rfl) (d_item (d_var 4) (d_mod (d_intC (by rfl) T.b_int (d_add (d_var 3) (d_var 1))) (d_int))))))))
    (ds_one (ds_ret (d_var 2)))))
def b_law_bent (c : Fid → FD) : FS :=
  sSeq (sSet 3 (fBin ixG (fV 2) (fCall (c .law_take) (faCons (fV 0) (faCons (fApp lenG (f1 (fV 2))) (faNil)))))) (sSeq (sSet 4 (fBin ixG (fV 2) (fUn negG (fC (.int 1))))) (sSeq (sSet 5 (fLst (faCons (fC .non) (faCons (fC (.int 5)) (faCons (fBin ixG (fV 3) (fC (.int 0))) (faCons (fBin ixG (fV 3) (fC (.int 1))) (faCons (fTup (faCons (fBin ixG (fV 3) (fC (.int 0))) (faNil))) (faCons (fLst (faCons (fBin ixG (fV 3) (fC (.int 0))) (faCons (fBin ixG (fV 3) (fC (.int 1))) (faNil)))) (faCons (fTup (faCons (fBin ixG (fV 3) (fC (.int 0))) (faCons (fApp lstG (f1 (fBin ixG (fV 3) (fC (.int 1))))) (faNil)))) (faCons (fTup (faCons (fBin ixG (fV 3) (fC (.int 0))) (faCons (fC .non) (faNil)))) (faNil))))))))))) (sSeq (sSet 5 (fBin addG (fV 5) (fLst (faCons (fTup (faCons (fC (.str (Str.ofString "zz"))) (faCons (fBin ixG (fV 3) (fC (.int 1))) (faNil)))) (faCons (fTup (faCons (fBin ixG (fV 3) (fC (.int 0))) (faCons (fBin addG (fBin ixG (fV 3) (fC (.int 1))) (fTup (faCons (fC (.int 9)) (faNil)))) (faNil)))) (faCons (fTup (faCons (fBin ixG (fV 3) (fC (.int 0))) (faCons (fBin addG (fBin ixG (fV 3) (fC (.int 1))) (fTup (faCons (fUn negG (fC (.int 1))) (faNil)))) (faNil)))) (faCons (fTup (faCons (fBin ixG (fV 3) (fC (.int 1))) (faCons (fBin ixG (fV 3) (fC (.int 0))) (faNil)))) (faNil)))))))) (sSeq (sSet 5 (fBin addG (fV 5) (fLst (faCons (fTup (faCons (fBin ixG (fV 3) (fC (.int 0))) (faCons (fBin ixG (fV 3) (fC (.int 1))) (faCons (fC (.int 0)) (faNil))))) (faCons (fTup (faCons (fBin ixG (fV 3) (fC (.int 0))) (faCons (fBin addG (fBin ixG (fV 3) (fC (.int 1))) (fTup (faCons (fC .non) (faNil)))) (faNil)))) (faCons (fTup (faCons (fC .non) (faCons (fBin ixG (fV 3) (fC (.int 1))) (faNil)))) (faCons (fTup (faCons (fBin ixG (fV 3) (fC (.int 0))) (faCons (fBin addG (fBin ixG (fV 3) (fC (.int 1))) (fTup (faCons (fC (.str (Str.ofString "0"))) (faNil)))) (faNil)))) (faNil)))))))) (sSeq (sSet 5 (fBin addG (fV 5) (fLst (faCons (fTup (faCons (fBin ixG (fV 4) (fC (.int 0))) (faCons (fBin addG (fBin ixG (fV 4) (fC (.int 1))) (fTup (faCons (fC (.int 0)) (faNil)))) (faNil)))) (faCons (fTup (faCons (fBin ixG (fV 3) (fC (.int 0))) (faCons (fBin addG (fBin addG (fBin ixG (fV 3) (fC (.int 1))) (fTup (faCons (fC (.bl true)) (faNil)))) (fBin mulG (fTup (faCons (fC (.bl false)) (faNil))) (fC (.int 12)))) (faNil)))) (faCons (fTup (faCons (fC (.str (Str.ofString ""))) (faCons (fTup (faNil)) (faNil)))) (faCons (fTup (faCons (fBin ixG (fV 3) (fC (.int 0))) (faCons (fC (.int 0)) (faNil)))) (faNil)))))))) (sSeq (sSet 6 (fTup (faCons (fBin ixG (fV 3) (fC (.int 0))) (faCons (fApp tupG (f1 (fLc (fItems (fBin ixG (fV 3) (fC (.int 1)))) (stN 7) (fYes) (fBin eqG (fV 7) (fC (.int 1))) [7]))) (faNil))))) (sSeq (sIf (fT (fBin eqG (fBin ixG (fV 3) (fC (.int 1))) (fTup (faNil)))) (sSet 6 (fTup (faCons (fBin ixG (fV 3) (fC (.int 0))) (faCons (fTup (faCons (fC (.bl false)) (faNil))) (faNil))))) (sNx)) (sRet (fBin ixG (fBin addG (fV 5) (fBin mulG (fLst (faCons (fV 6) (faNil))) (fC (.int 4)))) (fCall (c .law_take) (faCons (fV 0) (faCons (fC (.int 24)) (faNil)))))))))))))
theorem ok_law_bent (T : Txt K mg ad fd) (G : Gs P w K mg base ad fd n c) : FnOk P w K mg base CX0 (n + 1) (ad .law_bent) (fd .law_bent) (ps .law_bent) (spD (fnD 3 8 (b_law_bent c))) := by
  have nd := sc_law_bent.nd
  exact d_fn (T.fn .law_bent) sc_law_bent (fun cdv A outer s H E hr =>
    ds_cons (ds_set (i := 3) nd rfl (Or.inl rfl) (d_item (d_var 2) (d_call (G .law_take) hr (by rfl) (T.mgF .law_take) (T.kp .law_take) (T.bd .law_take) (da_cons (d_var 0) (da_cons (d_len (by rfl) T.b_len (d_var 2)) (da_nil))))))
    (ds_cons (ds_set (i := 4) nd rfl (Or.inl rfl) (d_item (d_var 2) (d_neg (d_int))))
    (ds_cons (ds_set (i := 5) nd rfl (Or.inl rfl) (d_lst (da_cons (d_non) (da_cons (d_int) (da_cons (d_item (d_var 3) (d_int)) (da_cons (d_item (d_var 3) (d_int)) (da_cons (d_tup (da_cons (d_item (d_var 3) (d_int)) (da_nil))) (da_cons (d_lst (da_cons (d_item (d_var 3) (d_int)) (da_cons (d_item (d_var 3) (d_int)) (da_nil)))) (da_cons (d_tup (da_cons (d_item (d_var 3) (d_int)) (da_cons (d_lstC (by rfl) T.b_list (d_item (d_var 3) (d_int))) (da_nil)))) (da_cons (d_tup (da_cons (d_item (d_var 3) (d_int)) (da_cons (d_non) (da_nil)))) (da_nil)))))))))))
    (ds_cons (ds_set (i := 5) nd rfl (Or.inl rfl) (d_add (d_var 5) (d_lst (da_cons (d_tup (da_cons (d_str) (da_cons (d_item (d_var 3) (d_int)) (da_nil)))) (da_cons (d_tup (da_cons (d_item (d_var 3) (d_int)) (da_cons (d_add (d_item (d_var 3) (d_int)) (d_tup (da_cons (d_int) (da_nil)))) (da_nil)))) (da_cons (d_tup (da_cons (d_item (d_var 3) (d_int)) (da_cons (d_add (d_item (d_var 3) (d_int)) (d_tup (da_cons (d_neg (d_int)) (da_nil)))) (da_nil)))) (da_cons (d_tup (da_cons (d_item (d_var 3) (d_int)) (da_cons (d_item (d_var 3) (d_int)) (da_nil)))) (da_nil))))))))
    (ds_cons (ds_set (i := 5) nd rfl (Or.inl rfl) (d_add (d_var 5) (d_lst (da_cons (d_tup (da_cons (d_item (d_var 3) (d_int)) (da_cons (d_item (d_var 3) (d_int)) (da_cons (d_int) (da_nil))))) (da_cons (d_tup (da_cons (d_item (d_var 3) (d_int)) (da_cons (d_add (d_item (d_var 3) (d_int)) (d_tup (da_cons (d_non) (da_nil)))) (da_nil)))) (da_cons (d_tup (da_cons (d_non) (da_cons (d_item (d_var 3) (d_int)) (da_nil)))) (da_cons (d_tup (da_cons (d_item (d_var 3) (d_int)) (da_cons (d_add (d_item (d_var 3) (d_int)) (d_tup (da_cons (d_str) (da_nil)))) (da_nil)))) (da_nil))))))))
    (ds_cons (ds_set (i := 5) nd rfl (Or.inl rfl) (d_add (d_var 5) (d_lst (da_cons (d_tup (da_cons (d_item (d_var 4) (d_int)) (da_cons (d_add (d_item (d_var 4) (d_int)) (d_tup (da_cons (d_int) (da_nil)))) (da_nil)))) (da_cons (d_tup (da_cons (d_item (d_var 3) (d_int)) (da_cons (d_add (d_add (d_item (d_var 3) (d_int)) (d_tup (da_cons (d_bl) (da_nil)))) (d_mul (d_tup (da_cons (d_bl) (da_nil))) (d_int))) (da_nil)))) (da_cons (d_tup (da_cons (d_str) (da_cons (d_tup (da_nil)) (da_nil)))) (da_cons (d_tup (da_cons (d_item (d_var 3) (d_int)) (da_cons (d_int) (da_nil)))) (da_nil))))))))
    (ds_cons (ds_set (i := 6) nd rfl (Or.inl rfl) (d_tup (da_cons (d_item (d_var 3) (d_int)) (da_cons (d_tupC (by rfl) T.b_tuple (d_lc (by rfl) (by exact nd) (di_seq (d_item (d_var 3) (d_int))) (blkOk_by (own := [((Str.ofString "_law_k"), 7)]) (N := n_law_bent) (sc := defScope s_law_bent) (by decide +kernel)) (fun _ _ _ _ _ => pg_name (i := 7) (by exact nd) (by rfl) (by exact Or.inl rfl)) (g_name) (fun _ _ _ _ _ => dts_nil) (fun _ _ _ _ _ => d_eq hr.units (d_var 7) (d_int)))) (da_nil)))))
    (ds_cons (ds_if (dt_eq hr.units (d_item (d_var 3) (d_int)) (d_tup (da_nil))) (ds_one (ds_set (i := 6) nd rfl (Or.inl rfl) (d_tup (da_cons (d_item (d_var 3) (d_int)) (da_cons (d_tup (da_cons (d_bl) (da_nil))) (da_nil)))))) (ds_nil))
    (ds_one (ds_ret (d_item (d_add (d_var 5) (d_mul (d_lst (da_cons (d_var 6) (da_nil))) (d_int))) (d_call (G .law_take) hr (by rfl) (T.mgF .law_take) (T.kp .law_take) (T.bd .law_take) (da_cons (d_var 0) (da_cons (d_int) (da_nil)))))))))))))))
end
end KK
end
section
set_option Elab.async false
set_option linter.all false
set_option maxRecDepth 100000
set_option maxHeartbeats 4000000
namespace KK
open PySem PySem.Spec PyProof.Rows L2 DL

section
variable {P : Program} {w : World} {K : PySem.W.Frag} {mg : Str → Option Value} {base : Heap} {ad : Fid → Addr} {fd : Fid → FuncData} {n : Nat} {c : Fid → FD}

def b_law_right (c : Fid → FD) : FS :=
  sSeq (sSet 1 (fTup (faCons (fC (.str (Str.ofString "bits"))) (faCons (fC (.str (Str.ofString "01"))) (faNil))))) (sSeq (sSet 2 (fLst (faCons (fTup (faCons (fC (.str (Str.ofString "bits"))) (faCons (fBin mulG (fC (.str (Str.ofString "01"))) (fC (.int 200))) (faNil)))) (faCons (fTup (faCons (fC (.str (Str.ofString "bits"))) (faCons (fC (.str (Str.ofString ""))) (faNil)))) (faCons (fTup (faCons (fC (.str (Str.ofString "table"))) (faCons (fTup (faNil)) (faNil)))) (faCons (fTup (faCons (fC (.str (Str.ofString "width"))) (faCons (fC (.int 8)) (faNil)))) (faCons (fTup (faCons (fC (.str (Str.ofString "width"))) (faCons (fC (.int 0)) (faNil)))) (faCons (fTup (faCons (fC (.str (Str.ofString "row"))) (faCons (fTup (faNil)) (faNil)))) (faCons (fTup (faCons (fC (.str (Str.ofString "either"))) (faCons (fTup (faNil)) (faNil)))) (faNil)))))))))) (sSeq (sSet 2 (fBin addG (fV 2) (fLst (faCons (fTup (faCons (fC (.str (Str.ofString "times"))) (faCons (fC (.int 8)) (faCons (fV 1) (faNil))))) (faCons (fTup (faCons (fC (.str (Str.ofString "times"))) (faCons (fC (.int 0)) (faCons (fV 1) (faNil))))) (faCons (fTup (faCons (fC (.str (Str.ofString "until"))) (faCons (fC (.str (Str.ofString "010101"))) (faCons (fV 1) (faNil))))) (faCons (fTup (faCons (fC (.str (Str.ofString "until"))) (faCons (fC (.str (Str.ofString "1"))) (faCons (fTup (faCons (fC (.str (Str.ofString "row"))) (faCons (fTup (faNil)) (faNil)))) (faNil))))) (faNil)))))))) (sSeq (sSet 2 (fBin addG (fV 2) (fLst (faCons (fTup (faCons (fC (.str (Str.ofString "table"))) (faCons (fTup (faCons (fTup (faCons (fBin mulG (fC (.str (Str.ofString "z"))) (fC (.int 12))) (faCons (fBin mulG (fC (.str (Str.ofString "0"))) (fC (.int 400))) (faNil)))) (faCons (fTup (faCons (fBin subG (fBin powG (fC (.int 10)) (fC (.int 40))) (fC (.int 1))) (faCons (fC (.str (Str.ofString ""))) (faNil)))) (faCons (fTup (faCons (fBin subG (fC (.int 1)) (fBin powG (fC (.int 10)) (fC (.int 40)))) (faCons (fC (.str (Str.ofString "1"))) (faNil)))) (faNil))))) (faNil)))) (faNil))))) (sSeq (sSet 2 (fBin addG (fV 2) (fLst (faCons (fTup (faCons (fC (.str (Str.ofString "table"))) (faCons (fTup (faCons (fTup (faCons (fC (.int 1)) (faCons (fC (.str (Str.ofString "0"))) (faNil)))) (faCons (fTup (faCons (fC (.str (Str.ofString "1"))) (faCons (fC (.str (Str.ofString "0"))) (faNil)))) (faNil)))) (faNil)))) (faCons (fTup (faCons (fC (.str (Str.ofString "either"))) (faCons (fTup (faCons (fTup (faCons (fC (.str (Str.ofString ""))) (faCons (fC (.str (Str.ofString ""))) (faCons (fV 1) (faNil))))) (faCons (fTup (faCons (fC (.str (Str.ofString " ~"))) (faCons (fBin mulG (fC (.str (Str.ofString "1"))) (fC (.int 400))) (faCons (fV 1) (faNil))))) (faNil)))) (faNil)))) (faNil)))))) (sSeq (sSet 2 (fBin addG (fV 2) (fLst (faCons (fTup (faCons (fC (.str (Str.ofString "checked"))) (faCons (fBin mulG (fTup (faCons (fTup (faCons (fC (.int 7)) (faCons (fC (.int 0)) (faCons (fC (.str (Str.ofString "1111"))) (faNil))))) (faNil))) (fC (.int 8))) (faCons (fV 1) (faNil))))) (faCons (fTup (faCons (fC (.str (Str.ofString "checked"))) (faCons (fTup (faCons (fTup (faCons (fC (.int 0)) (faCons (fC (.int 0)) (faCons (fC (.str (Str.ofString "0"))) (faNil))))) (faNil))) (faCons (fTup (faCons (fC (.str (Str.ofString "row"))) (faCons (fTup (faCons (fV 1) (faCons (fV 1) (faNil)))) (faNil)))) (faNil))))) (faNil)))))) (sSeq (sSet 2 (fBin addG (fV 2) (fLst (faCons (fTup (faCons (fC (.str (Str.ofString "counted"))) (faCons (fV 1) (faCons (fV 1) (faNil))))) (faCons (fTup (faCons (fC (.str (Str.ofString "sized"))) (faCons (fTup (faCons (fC (.str (Str.ofString "table"))) (faCons (fTup (faCons (fTup (faCons (fC (.str (Str.ofString "x"))) (faCons (fC (.str (Str.ofString "0"))) (faNil)))) (faNil))) (faNil)))) (faCons (fTup (faCons (fC (.str (Str.ofString "row"))) (faCons (fTup (faNil)) (faNil)))) (faNil))))) (faCons (fCall (c .law_deep) (faCons (fC (.int 12)) (faCons (fCall (c .law_take) (faCons (fV 0) (faCons (fC (.int 7)) (faNil)))) (faNil)))) (faNil))))))) (sSeq (sSet 2 (fBin addG (fV 2) (fLst (faCons (fTup (faCons (fC (.str (Str.ofString "either"))) (faCons (fTup (faCons (fTup (faCons (fC (.str (Str.ofString "a b-c_d.e~f!"))) (faCons (fC (.str (Str.ofString ""))) (faCons (fV 1) (faNil))))) (faNil))) (faNil)))) (faNil))))) (sRet (fBin ixG (fV 2) (fCall (c .law_take) (faCons (fV 0) (faCons (fC (.int 20)) (faNil)))))))))))))
theorem ok_law_right (T : Txt K mg ad fd) (G : Gs P w K mg base ad fd n c) : FnOk P w K mg base CX0 (n + 1) (ad .law_right) (fd .law_right) (ps .law_right) (spD (fnD 1 3 (b_law_right c))) := by
  have nd := sc_law_right.nd
  exact d_fn (T.fn .law_right) sc_law_right (fun cdv A outer s H E hr =>
    ds_cons (ds_set (i := 1) nd rfl (Or.inl rfl) (d_tup (da_cons (d_str) (da_cons (d_str) (da_nil)))))
    (ds_cons (ds_set (i := 2) nd rfl (Or.inl rfl) (d_lst (da_cons (d_tup (da_cons (d_str) (da_cons (d_mul (d_str) (d_int)) (da_nil)))) (da_cons (d_tup (da_cons (d_str) (da_cons (d_str) (da_nil)))) (da_cons (d_tup (da_cons (d_str) (da_cons (d_tup (da_nil)) (da_nil)))) (da_cons (d_tup (da_cons (d_str) (da_cons (d_int) (da_nil)))) (da_cons (d_tup (da_cons (d_str) (da_cons (d_int) (da_nil)))) (da_cons (d_tup (da_cons (d_str) (da_cons (d_tup (da_nil)) (da_nil)))) (da_cons (d_tup (da_cons (d_str) (da_cons (d_tup (da_nil)) (da_nil)))) (da_nil))))))))))
    (ds_cons (ds_set (i := 2) nd rfl (Or.inl rfl) (d_add (d_var 2) (d_lst (da_cons (d_tup (da_cons (d_str) (da_cons (d_int) (da_cons (d_var 1) (da_nil))))) (da_cons (d_tup (da_cons (d_str) (da_cons (d_int) (da_cons (d_var 1) (da_nil))))) (da_cons (d_tup (da_cons (d_str) (da_cons (d_str) (da_cons (d_var 1) (da_nil))))) (da_cons (d_tup (da_cons (d_str) (da_cons (d_str) (da_cons (d_tup (da_cons (d_str) (da_cons (d_tup (da_nil)) (da_nil)))) (da_nil))))) (da_nil))))))))
    (ds_cons (ds_set (i := 2) nd rfl (Or.inl rfl) (d_add (d_var 2) (d_lst (da_cons (d_tup (da_cons (d_str) (da_cons (d_tup (da_cons (d_tup (da_cons (d_mul (d_str) (d_int)) (da_cons (d_mul (d_str) (d_int)) (da_nil)))) (da_cons (d_tup (da_cons (d_sub (d_pow (d_int) (d_int)) (d_int)) (da_cons (d_str) (da_nil)))) (da_cons (d_tup (da_cons (d_sub (d_int) (d_pow (d_int) (d_int))) (da_cons (d_str) (da_nil)))) (da_nil))))) (da_nil)))) (da_nil)))))
    (ds_cons (ds_set (i := 2) nd rfl (Or.inl rfl) (d_add (d_var 2) (d_lst (da_cons (d_tup (da_cons (d_str) (da_cons (d_tup (da_cons (d_tup (da_cons (d_int) (da_cons (d_str) (da_nil)))) (da_cons (d_tup (da_cons (d_str) (da_cons (d_str) (da_nil)))) (da_nil)))) (da_nil)))) (da_cons (d_tup (da_cons (d_str) (da_cons (d_tup (da_cons (d_tup (da_cons (d_str) (da_cons (d_str) (da_cons (d_var 1) (da_nil))))) (da_cons (d_tup (da_cons (d_str) (da_cons (d_mul (d_str) (d_int)) (da_cons (d_var 1) (da_nil))))) (da_nil)))) (da_nil)))) (da_nil))))))
    (ds_cons (ds_set (i := 2) nd rfl (Or.inl rfl) (d_add (d_var 2) (d_lst (da_cons (d_tup (da_cons (d_str) (da_cons (d_mul (d_tup (da_cons (d_tup (da_cons (d_int) (da_cons (d_int) (da_cons (d_str) (da_nil))))) (da_nil))) (d_int)) (da_cons (d_var 1) (da_nil))))) (da_cons (d_tup (da_cons (d_str) (da_cons (d_tup (da_cons (d_tup (da_cons (d_int) (da_cons (d_int) (da_cons (d_str) (da_nil))))) (da_nil))) (da_cons (d_tup (da_cons (d_str) (da_cons (d_tup (da_cons (d_var 1) (da_cons (d_var 1) (da_nil)))) (da_nil)))) (da_nil))))) (da_nil))))))
    (ds_cons (ds_set (i := 2) nd rfl (Or.inl rfl) (d_add (d_var 2) (d_lst (da_cons (d_tup (da_cons (d_str) (da_cons (d_var 1) (da_cons (d_var 1) (da_nil))))) (da_cons (d_tup (da_cons (d_str) (da_cons (d_tup (da_cons (d_str) (da_cons (d_tup (da_cons (d_tup (da_cons (d_str) (da_cons (d_str) (da_nil)))) (da_nil))) (da_nil)))) (da_cons (d_tup (da_cons (d_str) (da_cons (d_tup (da_nil)) (da_nil)))) (da_nil))))) (da_cons (d_call (G .law_deep) hr (by rfl) (T.mgF .law_deep) (T.kp .law_deep) (T.bd .law_deep) (da_cons (d_int) (da_cons (d_call (G .law_take) hr (by rfl) (T.mgF .law_take) (T.kp .law_take) (T.bd .law_take) (da_cons (d_var 0) (da_cons (d_int) (da_nil)))) (da_nil)))) (da_nil)))))))
    (ds_cons (ds_set (i := 2) nd rfl (Or.inl rfl) (d_add (d_var 2) (d_lst (da_cons (d_tup (da_cons (d_str) (da_cons (d_tup (da_cons (d_tup (da_cons (d_str) (da_cons (d_str) (da_cons (d_var 1) (da_nil))))) (da_nil))) (da_nil)))) (da_nil)))))
    (ds_one (ds_ret (d_item (d_var 2) (d_call (G .law_take) hr (by rfl) (T.mgF .law_take) (T.kp .law_take) (T.bd .law_take) (da_cons (d_var 0) (da_cons (d_int) (da_nil)))))))))))))))
def b_law_around (c : Fid → FD) : FS :=
  sSeq (sSet 2 (fBin ixG (fV 1) (fC (.int 0)))) (sSeq (sSet 3 (fBin ixG (fV 1) (fC (.int 1)))) (sSeq (sSet 4 (fBin ixG (fV 3) (fC (.int 0)))) (sSeq (sSet 5 (fLst (faCons (fTup (faCons (fV 2) (faCons (fV 3) (faCons (fC (.int 1)) (faNil))))) (faCons (fLst (faCons (fV 2) (faCons (fV 3) (faNil)))) (faCons (fTup (faCons (fV 2) (faCons (fApp lstG (f1 (fV 3))) (faNil)))) (faCons (fTup (faCons (fV 2) (faCons (fTup (faNil)) (faNil)))) (faCons (fTup (faCons (fC (.str (Str.ofString "zz9"))) (faCons (fV 3) (faNil)))) (faCons (fTup (faCons (fC .non) (faCons (fV 3) (faNil)))) (faNil))))))))) (sSeq (sSet 5 (fBin addG (fV 5) (fLst (faCons (fTup (faCons (fV 2) (faCons (fBin addG (fV 3) (fTup (faCons (fBin ixG (fV 3) (fUn negG (fC (.int 1)))) (faNil)))) (faNil)))) (faCons (fTup (faCons (fV 2) (faCons (fBin addG (fV 3) (fTup (faCons (fTup (faCons (fC (.str (Str.ofString "a"))) (faCons (fTup (faCons (fC (.str (Str.ofString "bits"))) (faCons (fC (.str (Str.ofString ""))) (faNil)))) (faNil)))) (faNil)))) (faNil)))) (faCons (fTup (faCons (fV 2) (faCons (fBin ixG (fV 3) (fC (.int 0))) (faNil)))) (faNil))))))) (sSeq (sSet 5 (fBin addG (fV 5) (fLst (faCons (fTup (faCons (fV 2) (faCons (fBin addG (fSl (fV 3) (foN) (foS (fUn negG (fC (.int 1))))) (fTup (faCons (fTup (faCons (fC (.str (Str.ofString "Z"))) (faCons (fTup (faCons (fC (.str (Str.ofString "bits"))) (faCons (fC (.str (Str.ofString ""))) (faNil)))) (faNil)))) (faCons (fBin ixG (fV 3) (fUn negG (fC (.int 1)))) (faNil))))) (faNil)))) (faCons (fTup (faCons (fV 2) (faCons (fBin addG (fV 3) (fTup (faCons (fTup (faCons (fC (.str (Str.ofString "zz9"))) (faNil))) (faNil)))) (faNil)))) (faCons (fC .non) (faNil))))))) (sSeq (sSet 5 (fBin addG (fV 5) (fLst (faCons (fTup (faCons (fV 2) (faCons (fBin addG (fV 3) (fTup (faCons (fTup (faCons (fC (.str (Str.ofString "zz9"))) (faCons (fTup (faCons (fC (.str (Str.ofString "ref"))) (faCons (fC (.str (Str.ofString "zz8"))) (faNil)))) (faNil)))) (faNil)))) (faNil)))) (faCons (fTup (faCons (fV 2) (faCons (fBin addG (fV 3) (fTup (faCons (fLst (faCons (fC (.str (Str.ofString "zz9"))) (faCons (fTup (faCons (fC (.str (Str.ofString "bits"))) (faCons (fC (.str (Str.ofString ""))) (faNil)))) (faNil)))) (faNil)))) (faNil)))) (faCons (fTup (faNil)) (faNil))))))) (sSeq (sSet 5 (fBin addG (fV 5) (fLst (faCons (fTup (faCons (fBin addG (fBin ixG (fV 4) (fC (.int 0))) (fC (.str (Str.ofString "x")))) (faCons (fV 3) (faNil)))) (faCons (fTup (faCons (fV 2) (faCons (fBin addG (fV 3) (fTup (faCons (fTup (faCons (fC (.str (Str.ofString "zz9"))) (faCons (fTup (faCons (fC (.str (Str.ofString "row"))) (faCons (fTup (faCons (fTup (faCons (fC (.str (Str.ofString "bits"))) (faCons (fC (.str (Str.ofString ""))) (faNil)))) (faCons (fTup (faCons (fC (.str (Str.ofString "ref"))) (faCons (fC (.str (Str.ofString "zz8"))) (faNil)))) (faNil)))) (faNil)))) (faNil)))) (faNil)))) (faNil)))) (faNil)))))) (sSeq (sSet 5 (fBin addG (fV 5) (fLst (faCons (fTup (faCons (fV 2) (faCons (fBin addG (fV 3) (fTup (faCons (fTup (faCons (fC .non) (faCons (fTup (faCons (fC (.str (Str.ofString "bits"))) (faCons (fC (.str (Str.ofString ""))) (faNil)))) (faNil)))) (faNil)))) (faNil)))) (faCons (fTup (faCons (fV 2) (faCons (fBin addG (fV 3) (fTup (faCons (fTup (faCons (fBin mulG (fC (.str (Str.ofString "z"))) (fC (.int 13))) (faCons (fTup (faCons (fC (.str (Str.ofString "bits"))) (faCons (fC (.str (Str.ofString ""))) (faNil)))) (faNil)))) (faNil)))) (faNil)))) (faCons (fC (.str (Str.ofString "root"))) (faNil))))))) (sSeq (sSet 5 (fBin addG (fV 5) (fLst (faCons (fTup (faCons (fTup (faCons (fV 2) (faNil))) (faCons (fV 3) (faNil)))) (faCons (fTup (faCons (fV 2) (faCons (fBin addG (fV 3) (fTup (faCons (fC (.int 5)) (faNil)))) (faNil)))) (faCons (fTup (faCons (fC (.bl true)) (faCons (fV 3) (faNil)))) (faNil))))))) (sSeq (sSet 6 (fTup (faCons (fC (.str (Str.ofString "bits"))) (faCons (fC (.str (Str.ofString ""))) (faNil))))) (sSeq (sSet 5 (fBin addG (fV 5) (fLst (faCons (fTup (faCons (fC (.str (Str.ofString "a"))) (faCons (fTup (faCons (fTup (faCons (fC (.str (Str.ofString "a"))) (faCons (fV 6) (faNil)))) (faCons (fTup (faCons (fC (.str (Str.ofString "c"))) (faCons (fV 6) (faNil)))) (faCons (fTup (faCons (fC (.str (Str.ofString "b"))) (faCons (fV 6) (faNil)))) (faCons (fTup (faCons (fC (.str (Str.ofString "d"))) (faCons (fV 6) (faNil)))) (faNil)))))) (faNil)))) (faCons (fTup (faCons (fC (.str (Str.ofString "a"))) (faCons (fTup (faCons (fTup (faCons (fC (.str (Str.ofString "a"))) (faCons (fV 6) (faNil)))) (faCons (fTup (faCons (fC (.str (Str.ofString "b"))) (faCons (fV 6) (faNil)))) (faCons (fTup (faCons (fC (.str (Str.ofString "b"))) (faCons (fV 6) (faNil)))) (faNil))))) (faNil)))) (faNil)))))) (sRet (fBin ixG (fV 5) (fCall (c .law_take) (faCons (fV 0) (faCons (fC (.int 25)) (faNil)))))))))))))))))
theorem ok_law_around (T : Txt K mg ad fd) (G : Gs P w K mg base ad fd n c) : FnOk P w K mg base CX0 (n + 1) (ad .law_around) (fd .law_around) (ps .law_around) (spD (fnD 2 7 (b_law_around c))) := by
  have nd := sc_law_around.nd
  exact d_fn (T.fn .law_around) sc_law_around (fun cdv A outer s H E hr =>
    ds_cons (ds_set (i := 2) nd rfl (Or.inl rfl) (d_item (d_var 1) (d_int)))
    (ds_cons (ds_set (i := 3) nd rfl (Or.inl rfl) (d_item (d_var 1) (d_int)))
    (ds_cons (ds_set (i := 4) nd rfl (Or.inl rfl) (d_item (d_var 3) (d_int)))
    (ds_cons (ds_set (i := 5) nd rfl (Or.inl rfl) (d_lst (da_cons (d_tup (da_cons (d_var 2) (da_cons (d_var 3) (da_cons (d_int) (da_nil))))) (da_cons (d_lst (da_cons (d_var 2) (da_cons (d_var 3) (da_nil)))) (da_cons (d_tup (da_cons (d_var 2) (da_cons (d_lstC (by rfl) T.b_list (d_var 3)) (da_nil)))) (da_cons (d_tup (da_cons (d_var 2) (da_cons (d_tup (da_nil)) (da_nil)))) (da_cons (d_tup (da_cons (d_str) (da_cons (d_var 3) (da_nil)))) (da_cons (d_tup (da_cons (d_non) (da_cons (d_var 3) (da_nil)))) (da_nil)))))))))
    (ds_cons (ds_set (i := 5) nd rfl (Or.inl rfl) (d_add (d_var 5) (d_lst (da_cons (d_tup (da_cons (d_var 2) (da_cons (d_add (d_var 3) (d_tup (da_cons (d_item (d_var 3) (d_neg (d_int))) (da_nil)))) (da_nil)))) (da_cons (d_tup (da_cons (d_var 2) (da_cons (d_add (d_var 3) (d_tup (da_cons (d_tup (da_cons (d_str) (da_cons (d_tup (da_cons (d_str) (da_cons (d_str) (da_nil)))) (da_nil)))) (da_nil)))) (da_nil)))) (da_cons (d_tup (da_cons (d_var 2) (da_cons (d_item (d_var 3) (d_int)) (da_nil)))) (da_nil)))))))
    (ds_cons (ds_set (i := 5) nd rfl (Or.inl rfl) (d_add (d_var 5) (d_lst (da_cons (d_tup (da_cons (d_var 2) (da_cons (d_add (d_slice (d_var 3) (do_n) (do_s (d_neg (d_int)))) (d_tup (da_cons (d_tup (da_cons (d_str) (da_cons (d_tup (da_cons (d_str) (da_cons (d_str) (da_nil)))) (da_nil)))) (da_cons (d_item (d_var 3) (d_neg (d_int))) (da_nil))))) (da_nil)))) (da_cons (d_tup (da_cons (d_var 2) (da_cons (d_add (d_var 3) (d_tup (da_cons (d_tup (da_cons (d_str) (da_nil))) (da_nil)))) (da_nil)))) (da_cons (d_non) (da_nil)))))))
    (ds_cons (ds_set (i := 5) nd rfl (Or.inl rfl) (d_add (d_var 5) (d_lst (da_cons (d_tup (da_cons (d_var 2) (da_cons (d_add (d_var 3) (d_tup (da_cons (d_tup (da_cons (d_str) (da_cons (d_tup (da_cons (d_str) (da_cons (d_str) (da_nil)))) (da_nil)))) (da_nil)))) (da_nil)))) (da_cons (d_tup (da_cons (d_var 2) (da_cons (d_add (d_var 3) (d_tup (da_cons (d_lst (da_cons (d_str) (da_cons (d_tup (da_cons (d_str) (da_cons (d_str) (da_nil)))) (da_nil)))) (da_nil)))) (da_nil)))) (da_cons (d_tup (da_nil)) (da_nil)))))))
    (ds_cons (ds_set (i := 5) nd rfl (Or.inl rfl) (d_add (d_var 5) (d_lst (da_cons (d_tup (da_cons (d_add (d_item (d_var 4) (d_int)) (d_str)) (da_cons (d_var 3) (da_nil)))) (da_cons (d_tup (da_cons (d_var 2) (da_cons (d_add (d_var 3) (d_tup (da_cons (d_tup (da_cons (d_str) (da_cons (d_tup (da_cons (d_str) (da_cons (d_tup (da_cons (d_tup (da_cons (d_str) (da_cons (d_str) (da_nil)))) (da_cons (d_tup (da_cons (d_str) (da_cons (d_str) (da_nil)))) (da_nil)))) (da_nil)))) (da_nil)))) (da_nil)))) (da_nil)))) (da_nil))))))
    (ds_cons (ds_set (i := 5) nd rfl (Or.inl rfl) (d_add (d_var 5) (d_lst (da_cons (d_tup (da_cons (d_var 2) (da_cons (d_add (d_var 3) (d_tup (da_cons (d_tup (da_cons (d_non) (da_cons (d_tup (da_cons (d_str) (da_cons (d_str) (da_nil)))) (da_nil)))) (da_nil)))) (da_nil)))) (da_cons (d_tup (da_cons (d_var 2) (da_cons (d_add (d_var 3) (d_tup (da_cons (d_tup (da_cons (d_mul (d_str) (d_int)) (da_cons (d_tup (da_cons (d_str) (da_cons (d_str) (da_nil)))) (da_nil)))) (da_nil)))) (da_nil)))) (da_cons (d_str) (da_nil)))))))
    (ds_cons (ds_set (i := 5) nd rfl (Or.inl rfl) (d_add (d_var 5) (d_lst (da_cons (d_tup (da_cons (d_tup (da_cons (d_var 2) (da_nil))) (da_cons (d_var 3) (da_nil)))) (da_cons (d_tup (da_cons (d_var 2) (da_cons (d_add (d_var 3) (d_tup (da_cons (d_int) (da_nil)))) (da_nil)))) (da_cons (d_tup (da_cons (d_bl) (da_cons (d_var 3) (da_nil)))) (da_nil)))))))
    (ds_cons (ds_set (i := 6) nd rfl (Or.inl rfl) (d_tup (da_cons (d_str) (da_cons (d_str) (da_nil)))))
    (ds_cons (ds_set (i := 5) nd rfl (Or.inl rfl) (d_add (d_var 5) (d_lst (da_cons (d_tup (da_cons (d_str) (da_cons (d_tup (da_cons (d_tup (da_cons (d_str) (da_cons (d_var 6) (da_nil)))) (da_cons (d_tup (da_cons (d_str) (da_cons (d_var 6) (da_nil)))) (da_cons (d_tup (da_cons (d_str) (da_cons (d_var 6) (da_nil)))) (da_cons (d_tup (da_cons (d_str) (da_cons (d_var 6) (da_nil)))) (da_nil)))))) (da_nil)))) (da_cons (d_tup (da_cons (d_str) (da_cons (d_tup (da_cons (d_tup (da_cons (d_str) (da_cons (d_var 6) (da_nil)))) (da_cons (d_tup (da_cons (d_str) (da_cons (d_var 6) (da_nil)))) (da_cons (d_tup (da_cons (d_str) (da_cons (d_var 6) (da_nil)))) (da_nil))))) (da_nil)))) (da_nil))))))
    (ds_one (ds_ret (d_item (d_var 5) (d_call (G .law_take) hr (by rfl) (T.mgF .law_take) (T.kp .law_take) (T.bd .law_take) (da_cons (d_var 0) (da_cons (d_int) (da_nil)))))))))))))))))))
end
end KK
end
section
set_option Elab.async false
set_option linter.all false
set_option maxRecDepth 100000
set_option maxHeartbeats 4000000
namespace KK
open PySem PySem.Spec PyProof.Rows L2 DL

section
variable {P : Program} {w : World} {K : PySem.W.Frag} {mg : Str → Option Value} {base : Heap} {ad : Fid → Addr} {fd : Fid → FuncData} {n : Nat} {c : Fid → FD}

def b_law_wrong (c : Fid → FD) : FS :=
  sSeq (sSet 1 (fTup (faCons (fC (.str (Str.ofString "bits"))) (faCons (fC (.str (Str.ofString "01"))) (faNil))))) (sSeq (sSet 2 (fLst (faCons (fC .non) (faCons (fC (.bl true)) (faCons (fC (.int 5)) (faCons (fC (.str (Str.ofString "bits"))) (faCons (fTup (faNil)) (faCons (fTup (faCons (fC (.str (Str.ofString "bits"))) (faNil))) (faCons (fLst (faCons (fC (.str (Str.ofString "bits"))) (faCons (fC (.str (Str.ofString "01"))) (faNil)))) (faCons (fTup (faCons (fC (.str (Str.ofString "bits"))) (faCons (fC (.str (Str.ofString "01"))) (faCons (fC (.str (Str.ofString "1"))) (faNil))))) (faCons (fTup (faCons (fC (.str (Str.ofString "bit"))) (faCons (fC (.str (Str.ofString "01"))) (faNil)))) (faCons (fTup (faCons (fC .non) (faCons (fC (.str (Str.ofString "01"))) (faNil)))) (faNil))))))))))))) (sSeq (sSet 2 (fBin addG (fV 2) (fLst (faCons (fTup (faCons (fC (.str (Str.ofString "bits"))) (faCons (fC (.str (Str.ofString "02"))) (faNil)))) (faCons (fTup (faCons (fC (.str (Str.ofString "bits"))) (faCons (fBin mulG (fC (.str (Str.ofString "0"))) (fC (.int 401))) (faNil)))) (faCons (fTup (faCons (fC (.str (Str.ofString "bits"))) (faCons (fC (.int 1)) (faNil)))) (faCons (fTup (faCons (fC (.str (Str.ofString "bits"))) (faCons (fTup (faCons (fC (.str (Str.ofString "0"))) (faNil))) (faNil)))) (faCons (fTup (faCons (fC (.str (Str.ofString "width"))) (faCons (fC (.int 9)) (faNil)))) (faCons (fTup (faCons (fC (.str (Str.ofString "width"))) (faCons (fUn negG (fC (.int 1))) (faNil)))) (faNil)))))))))) (sSeq (sSet 2 (fBin addG (fV 2) (fLst (faCons (fTup (faCons (fC (.str (Str.ofString "width"))) (faCons (fC (.bl true)) (faNil)))) (faCons (fTup (faCons (fC (.str (Str.ofString "width"))) (faCons (fC (.str (Str.ofString "3"))) (faNil)))) (faCons (fTup (faCons (fC (.str (Str.ofString "width"))) (faCons (fC .non) (faNil)))) (faCons (fTup (faCons (fC (.str (Str.ofString "row"))) (faCons (fLst (faCons (fV 1) (faNil))) (faNil)))) (faCons (fTup (faCons (fC (.str (Str.ofString "row"))) (faCons (fV 1) (faNil)))) (faCons (fTup (faCons (fC (.str (Str.ofString "row"))) (faCons (fTup (faCons (fC .non) (faNil))) (faNil)))) (faNil)))))))))) (sSeq (sSet 2 (fBin addG (fV 2) (fLst (faCons (fTup (faCons (fC (.str (Str.ofString "row"))) (faCons (fTup (faCons (fV 1) (faCons (fTup (faCons (fC (.str (Str.ofString "bits"))) (faCons (fC (.int 0)) (faNil)))) (faNil)))) (faNil)))) (faCons (fTup (faCons (fC (.str (Str.ofString "table"))) (faCons (fLst (faCons (fTup (faCons (fC (.str (Str.ofString "x"))) (faCons (fC (.str (Str.ofString "0"))) (faNil)))) (faNil))) (faNil)))) (faCons (fTup (faCons (fC (.str (Str.ofString "table"))) (faCons (fTup (faCons (fTup (faCons (fC (.str (Str.ofString "x"))) (faCons (fC (.str (Str.ofString "0"))) (faNil)))) (faCons (fTup (faCons (fC (.str (Str.ofString "x"))) (faCons (fC (.str (Str.ofString "1"))) (faNil)))) (faNil)))) (faNil)))) (faNil))))))) (sSeq (sSet 2 (fBin addG (fV 2) (fLst (faCons (fTup (faCons (fC (.str (Str.ofString "table"))) (faCons (fTup (faCons (fTup (faCons (fC (.int 3)) (faCons (fC (.str (Str.ofString "0"))) (faNil)))) (faCons (fTup (faCons (fC (.int 3)) (faCons (fC (.str (Str.ofString "1"))) (faNil)))) (faNil)))) (faNil)))) (faCons (fTup (faCons (fC (.str (Str.ofString "table"))) (faCons (fTup (faCons (fTup (faCons (fC (.bl true)) (faCons (fC (.str (Str.ofString "0"))) (faNil)))) (faNil))) (faNil)))) (faCons (fTup (faCons (fC (.str (Str.ofString "table"))) (faCons (fTup (faCons (fTup (faCons (fBin mulG (fC (.str (Str.ofString "x"))) (fC (.int 13))) (faCons (fC (.str (Str.ofString "0"))) (faNil)))) (faNil))) (faNil)))) (faNil))))))) (sSeq (sSet 2 (fBin addG (fV 2) (fLst (faCons (fTup (faCons (fC (.str (Str.ofString "table"))) (faCons (fTup (faCons (fTup (faCons (fBin powG (fC (.int 10)) (fC (.int 40))) (faCons (fC (.str (Str.ofString "0"))) (faNil)))) (faNil))) (faNil)))) (faCons (fTup (faCons (fC (.str (Str.ofString "table"))) (faCons (fTup (faCons (fTup (faCons (fUn negG (fBin powG (fC (.int 10)) (fC (.int 40)))) (faCons (fC (.str (Str.ofString "0"))) (faNil)))) (faNil))) (faNil)))) (faCons (fTup (faCons (fC (.str (Str.ofString "table"))) (faCons (fTup (faCons (fTup (faCons (fC (.str (Str.ofString "a'"))) (faCons (fC (.str (Str.ofString "0"))) (faNil)))) (faNil))) (faNil)))) (faNil))))))) (sSeq (sSet 2 (fBin addG (fV 2) (fLst (faCons (fTup (faCons (fC (.str (Str.ofString "table"))) (faCons (fTup (faCons (fTup (faCons (fC (.str (Str.ofString "a\\"))) (faCons (fC (.str (Str.ofString "0"))) (faNil)))) (faNil))) (faNil)))) (faCons (fTup (faCons (fC (.str (Str.ofString "table"))) (faCons (fTup (faCons (fTup (faCons (fC (.str (Str.ofString "a\n"))) (faCons (fC (.str (Str.ofString "0"))) (faNil)))) (faNil))) (faNil)))) (faCons (fTup (faCons (fC (.str (Str.ofString "table"))) (faCons (fTup (faCons (fTup (faCons (fC (.str (Str.ofString "x"))) (faCons (fC (.str (Str.ofString "0"))) (faCons (fC (.str (Str.ofString "1"))) (faNil))))) (faNil))) (faNil)))) (faNil))))))) (sSeq (sSet 2 (fBin addG (fV 2) (fLst (faCons (fTup (faCons (fC (.str (Str.ofString "table"))) (faCons (fTup (faCons (fLst (faCons (fC (.str (Str.ofString "x"))) (faCons (fC (.str (Str.ofString "0"))) (faNil)))) (faNil))) (faNil)))) (faCons (fTup (faCons (fC (.str (Str.ofString "table"))) (faCons (fTup (faCons (fTup (faCons (fC (.str (Str.ofString "x"))) (faCons (fBin mulG (fC (.str (Str.ofString "0"))) (fC (.int 401))) (faNil)))) (faNil))) (faNil)))) (faCons (fTup (faCons (fC (.str (Str.ofString "table"))) (faCons (fTup (faCons (fTup (faCons (fC .non) (faCons (fC (.str (Str.ofString "0"))) (faNil)))) (faNil))) (faNil)))) (faNil))))))) (sSeq (sSet 2 (fBin addG (fV 2) (fLst (faCons (fTup (faCons (fC (.str (Str.ofString "table"))) (faCons (fTup (faCons (fTup (faCons (fTup (faNil)) (faCons (fC (.str (Str.ofString "0"))) (faNil)))) (faNil))) (faNil)))) (faCons (fTup (faCons (fC (.str (Str.ofString "either"))) (faCons (fLst (faCons (fTup (faCons (fC (.str (Str.ofString "x"))) (faCons (fC (.str (Str.ofString "0"))) (faCons (fV 1) (faNil))))) (faNil))) (faNil)))) (faCons (fTup (faCons (fC (.str (Str.ofString "either"))) (faCons (fTup (faCons (fTup (faCons (fC (.str (Str.ofString "x"))) (faCons (fC (.str (Str.ofString "0"))) (faNil)))) (faNil))) (faNil)))) (faNil))))))) (sSeq (sSet 2 (fBin addG (fV 2) (fLst (faCons (fTup (faCons (fC (.str (Str.ofString "either"))) (faCons (fTup (faCons (fTup (faCons (fC (.str (Str.ofString "x"))) (faCons (fC (.str (Str.ofString "0"))) (faCons (fV 1) (faNil))))) (faCons (fTup (faCons (fC (.str (Str.ofString "x"))) (faCons (fC (.str (Str.ofString "1"))) (faCons (fV 1) (faNil))))) (faNil)))) (faNil)))) (faCons (fTup (faCons (fC (.str (Str.ofString "either"))) (faCons (fTup (faCons (fTup (faCons (fC (.int 1)) (faCons (fC (.str (Str.ofString "0"))) (faCons (fV 1) (faNil))))) (faNil))) (faNil)))) (faNil)))))) (sSeq (sSet 2 (fBin addG (fV 2) (fLst (faCons (fTup (faCons (fC (.str (Str.ofString "either"))) (faCons (fTup (faCons (fTup (faCons (fC (.str (Str.ofString "x"))) (faCons (fC (.int 0)) (faCons (fV 1) (faNil))))) (faNil))) (faNil)))) (faCons (fTup (faCons (fC (.str (Str.ofString "either"))) (faCons (fTup (faCons (fTup (faCons (fC (.str (Str.ofString "x"))) (faCons (fC (.str (Str.ofString "0"))) (faCons (fC .non) (faNil))))) (faNil))) (faNil)))) (faCons (fTup (faCons (fC (.str (Str.ofString "either"))) (faCons (fTup (faCons (fTup (faCons (fC (.str (Str.ofString "x"))) (faCons (fC (.str (Str.ofString "b"))) (faCons (fV 1) (faNil))))) (faNil))) (faNil)))) (faNil))))))) (sSeq (sSet 2 (fBin addG (fV 2) (fLst (faCons (fTup (faCons (fC (.str (Str.ofString "times"))) (faCons (fC (.int 9)) (faCons (fV 1) (faNil))))) (faCons (fTup (faCons (fC (.str (Str.ofString "times"))) (faCons (fUn negG (fC (.int 1))) (faCons (fV 1) (faNil))))) (faCons (fTup (faCons (fC (.str (Str.ofString "times"))) (faCons (fC (.bl true)) (faCons (fV 1) (faNil))))) (faCons (fTup (faCons (fC (.str (Str.ofString "times"))) (faCons (fV 1) (faCons (fC (.int 2)) (faNil))))) (faCons (fTup (faCons (fC (.str (Str.ofString "times"))) (faCons (fC (.int 2)) (faNil)))) (faNil))))))))) (sSeq (sSet 2 (fBin addG (fV 2) (fLst (faCons (fTup (faCons (fC (.str (Str.ofString "counted"))) (faCons (fV 1) (faNil)))) (faCons (fTup (faCons (fC (.str (Str.ofString "counted"))) (faCons (fC (.int 2)) (faCons (fV 1) (faNil))))) (faCons (fTup (faCons (fC (.str (Str.ofString "sized"))) (faCons (fV 1) (faCons (fC .non) (faNil))))) (faCons (fTup (faCons (fC (.str (Str.ofString "sized"))) (faCons (fV 1) (faCons (fV 1) (faCons (fV 1) (faNil)))))) (faNil)))))))) (sSeq (sSet 2 (fBin addG (fV 2) (fLst (faCons (fTup (faCons (fC (.str (Str.ofString "until"))) (faCons (fC (.str (Str.ofString ""))) (faCons (fV 1) (faNil))))) (faCons (fTup (faCons (fC (.str (Str.ofString "until"))) (faCons (fC (.str (Str.ofString "0000000"))) (faCons (fV 1) (faNil))))) (faCons (fTup (faCons (fC (.str (Str.ofString "until"))) (faCons (fV 1) (faCons (fC (.str (Str.ofString "0"))) (faNil))))) (faCons (fTup (faCons (fC (.str (Str.ofString "until"))) (faCons (fC (.str (Str.ofString "2"))) (faCons (fV 1) (faNil))))) (faNil)))))))) (sSeq (sSet 2 (fBin addG (fV 2) (fLst (faCons (fTup (faCons (fC (.str (Str.ofString "checked"))) (faCons (fTup (faNil)) (faCons (fV 1) (faNil))))) (faCons (fTup (faCons (fC (.str (Str.ofString "checked"))) (faCons (fBin mulG (fTup (faCons (fTup (faCons (fC (.int 0)) (faCons (fC (.int 0)) (faCons (fC (.str (Str.ofString "0"))) (faNil))))) (faNil))) (fC (.int 9))) (faCons (fV 1) (faNil))))) (faCons (fTup (faCons (fC (.str (Str.ofString "checked"))) (faCons (fTup (faCons (fTup (faCons (fC (.int 0)) (faCons (fC (.int 1)) (faCons (fC (.str (Str.ofString "0"))) (faNil))))) (faNil))) (faCons (fV 1) (faNil))))) (faNil))))))) (sSeq (sSet 2 (fBin addG (fV 2) (fLst (faCons (fTup (faCons (fC (.str (Str.ofString "checked"))) (faCons (fTup (faCons (fTup (faCons (fC (.int 0)) (faCons (fC (.int 0)) (faCons (fC (.str (Str.ofString ""))) (faNil))))) (faNil))) (faCons (fV 1) (faNil))))) (faCons (fTup (faCons (fC (.str (Str.ofString "checked"))) (faCons (fTup (faCons (fTup (faCons (fC (.int 0)) (faCons (fC (.int 0)) (faCons (fC (.str (Str.ofString "00000"))) (faNil))))) (faNil))) (faCons (fV 1) (faNil))))) (faNil)))))) (sSeq (sSet 2 (fBin addG (fV 2) (fLst (faCons (fTup (faCons (fC (.str (Str.ofString "checked"))) (faCons (fTup (faCons (fTup (faCons (fC (.int 0)) (faCons (fC (.int 1)) (faCons (fC (.str (Str.ofString "0"))) (faNil))))) (faCons (fTup (faCons (fC (.int 1)) (faCons (fC (.int 0)) (faCons (fC (.str (Str.ofString "01"))) (faNil))))) (faNil)))) (faCons (fV 1) (faNil))))) (faCons (fTup (faCons (fC (.str (Str.ofString "checked"))) (faCons (fTup (faCons (fTup (faCons (fC (.bl false)) (faCons (fC (.int 0)) (faCons (fC (.str (Str.ofString "0"))) (faNil))))) (faNil))) (faCons (fV 1) (faNil))))) (faNil)))))) (sSeq (sSet 2 (fBin addG (fV 2) (fLst (faCons (fTup (faCons (fC (.str (Str.ofString "checked"))) (faCons (fTup (faCons (fTup (faCons (fC (.int 0)) (faCons (fUn negG (fC (.int 1))) (faCons (fC (.str (Str.ofString "0"))) (faNil))))) (faNil))) (faCons (fV 1) (faNil))))) (faCons (fTup (faCons (fC (.str (Str.ofString "checked"))) (faCons (fTup (faCons (fTup (faCons (fC (.int 0)) (faCons (fC (.int 0)) (faNil)))) (faNil))) (faCons (fV 1) (faNil))))) (faCons (fTup (faCons (fC (.str (Str.ofString "checked"))) (faCons (fLst (faCons (fTup (faCons (fC (.int 0)) (faCons (fC (.int 0)) (faCons (fC (.str (Str.ofString "0"))) (faNil))))) (faNil))) (faCons (fV 1) (faNil))))) (faNil))))))) (sSeq (sSet 2 (fBin addG (fV 2) (fLst (faCons (fTup (faCons (fC (.str (Str.ofString "ref"))) (faCons (fC (.str (Str.ofString ""))) (faNil)))) (faCons (fTup (faCons (fC (.str (Str.ofString "ref"))) (faCons (fC (.str (Str.ofString "A"))) (faNil)))) (faCons (fTup (faCons (fC (.str (Str.ofString "ref"))) (faCons (fC (.str (Str.ofString "1a"))) (faNil)))) (faCons (fTup (faCons (fC (.str (Str.ofString "ref"))) (faCons (fBin mulG (fC (.str (Str.ofString "a"))) (fC (.int 13))) (faNil)))) (faCons (fTup (faCons (fC (.str (Str.ofString "ref"))) (faCons (fC .non) (faNil)))) (faCons (fTup (faCons (fC (.str (Str.ofString "ref"))) (faCons (fTup (faCons (fC (.str (Str.ofString "a"))) (faNil))) (faNil)))) (faNil)))))))))) (sSeq (sSet 2 (fBin addG (fV 2) (fLst (faCons (fTup (faCons (fC (.str (Str.ofString "ref"))) (faCons (fC (.str (Str.ofString "a b"))) (faNil)))) (faCons (fCall (c .law_deep) (faCons (fC (.int 13)) (faCons (fCall (c .law_take) (faCons (fV 0) (faCons (fC (.int 7)) (faNil)))) (faNil)))) (faCons (fTup (faCons (fC (.str (Str.ofString "table"))) (faCons (fTup (faCons (fTup (faCons (fC (.str (Str.ofString "x"))) (faCons (fC (.str (Str.ofString "0"))) (faNil)))) (faCons (fC .non) (faNil)))) (faNil)))) (faCons (fTup (faCons (fLst (faCons (fC (.str (Str.ofString "bits"))) (faNil))) (faCons (fC (.str (Str.ofString "01"))) (faNil)))) (faNil)))))))) (sSeq (sSet 2 (fBin addG (fV 2) (fLst (faCons (fTup (faCons (fC (.str (Str.ofString "either"))) (faCons (fTup (faCons (fTup (faCons (fBin mulG (fC (.str (Str.ofString "x"))) (fC (.int 13))) (faCons (fC (.str (Str.ofString "0"))) (faCons (fV 1) (faNil))))) (faNil))) (faNil)))) (faCons (fTup (faCons (fC (.str (Str.ofString "either"))) (faCons (fTup (faCons (fTup (faCons (fC (.str (Str.ofString "it's"))) (faCons (fC (.str (Str.ofString "0"))) (faCons (fV 1) (faNil))))) (faNil))) (faNil)))) (faCons (fTup (faCons (fC (.str (Str.ofString "table"))) (faCons (fTup (faCons (fTup (faCons (fC (.str (Str.ofString "x"))) (faCons (fC (.str (Str.ofString "02"))) (faNil)))) (faNil))) (faNil)))) (faNil))))))) (sSeq (sSet 2 (fBin addG (fV 2) (fLst (faCons (fTup (faCons (fC (.str (Str.ofString "table"))) (faCons (fTup (faCons (fTup (faCons (fC (.str (Str.ofString "x"))) (faCons (fC (.int 0)) (faNil)))) (faNil))) (faNil)))) (faCons (fTup (faCons (fC (.str (Str.ofString "table"))) (faCons (fTup (faCons (fTup (faCons (fC (.str (Str.ofString "x"))) (faCons (fC .non) (faNil)))) (faNil))) (faNil)))) (faCons (fTup (faCons (fC (.str (Str.ofString "either"))) (faCons (fTup (faCons (fTup (faCons (fC (.str (Str.ofString "x"))) (faCons (fBin mulG (fC (.str (Str.ofString "0"))) (fC (.int 401))) (faCons (fV 1) (faNil))))) (faNil))) (faNil)))) (faNil))))))) (sSeq (sSet 2 (fBin addG (fV 2) (fLst (faCons (fTup (faCons (fC (.str (Str.ofString "either"))) (faCons (fTup (faCons (fLst (faCons (fC (.str (Str.ofString "x"))) (faCons (fC (.str (Str.ofString "0"))) (faCons (fV 1) (faNil))))) (faNil))) (faNil)))) (faCons (fTup (faCons (fC (.str (Str.ofString "checked"))) (faCons (fTup (faCons (fTup (faCons (fC (.int 0)) (faCons (fC (.int 0)) (faCons (fC (.str (Str.ofString "2"))) (faNil))))) (faNil))) (faCons (fV 1) (faNil))))) (faCons (fTup (faCons (fC (.str (Str.ofString "checked"))) (faCons (fTup (faCons (fTup (faCons (fC (.int 0)) (faCons (fC (.int 0)) (faCons (fC (.int 5)) (faNil))))) (faNil))) (faCons (fV 1) (faNil))))) (faNil))))))) (sSeq (sSet 2 (fBin addG (fV 2) (fLst (faCons (fTup (faCons (fC (.str (Str.ofString "checked"))) (faCons (fTup (faCons (fTup (faCons (fC (.int 0)) (faCons (fC (.bl false)) (faCons (fC (.str (Str.ofString "0"))) (faNil))))) (faNil))) (faCons (fV 1) (faNil))))) (faCons (fTup (faCons (fC (.str (Str.ofString "table"))) (faCons (fTup (faCons (fTup (faCons (fLst (faNil)) (faCons (fC (.str (Str.ofString "0"))) (faNil)))) (faNil))) (faNil)))) (faCons (fTup (faCons (fC (.str (Str.ofString "either"))) (faCons (fTup (faCons (fTup (faCons (fLst (faNil)) (faCons (fC (.str (Str.ofString "0"))) (faCons (fV 1) (faNil))))) (faNil))) (faNil)))) (faNil))))))) (sSeq (sSet 2 (fBin addG (fV 2) (fLst (faCons (fTup (faCons (fC (.str (Str.ofString "table"))) (faCons (fTup (faCons (fTup (faCons (fC (.str (Str.ofString "x"))) (faCons (fC (.str (Str.ofString "0"))) (faNil)))) (faCons (fTup (faCons (fC (.str (Str.ofString "y"))) (faCons (fC (.str (Str.ofString "1"))) (faNil)))) (faCons (fTup (faCons (fC (.str (Str.ofString "x"))) (faCons (fC (.str (Str.ofString "00"))) (faNil)))) (faNil))))) (faNil)))) (faCons (fTup (faCons (fC (.str (Str.ofString "checked"))) (faCons (fTup (faCons (fTup (faCons (fC (.int 0)) (faCons (fC (.int 0)) (faCons (fC (.str (Str.ofString "0"))) (faNil))))) (faCons (fTup (faCons (fC (.int 0)) (faCons (fC (.int 0)) (faCons (fC (.str (Str.ofString "1"))) (faNil))))) (faCons (fTup (faCons (fC (.int 0)) (faCons (fC (.int 0)) (faCons (fC (.str (Str.ofString "01"))) (faNil))))) (faNil))))) (faCons (fV 1) (faNil))))) (faNil)))))) (sSeq (sSet 2 (fBin addG (fV 2) (fLst (faCons (fTup (faCons (fC (.str (Str.ofString "either"))) (faCons (fTup (faCons (fTup (faCons (fC (.str (Str.ofString "x"))) (faCons (fC (.str (Str.ofString "0"))) (faCons (fV 1) (faNil))))) (faCons (fTup (faCons (fC (.str (Str.ofString "y"))) (faCons (fC (.str (Str.ofString "1"))) (faCons (fV 1) (faNil))))) (faCons (fTup (faCons (fC (.str (Str.ofString "x"))) (faCons (fC (.str (Str.ofString "00"))) (faCons (fV 1) (faNil))))) (faNil))))) (faNil)))) (faNil))))) (sRet (fBin ixG (fV 2) (fCall (c .law_take) (faCons (fV 0) (faCons (fApp lenG (f1 (fV 2))) (faNil))))))))))))))))))))))))))))))))
theorem ok_law_wrong (T : Txt K mg ad fd) (G : Gs P w K mg base ad fd n c) : FnOk P w K mg base CX0 (n + 1) (ad .law_wrong) (fd .law_wrong) (ps .law_wrong) (spD (fnD 1 3 (b_law_wrong c))) := by
  have nd := sc_law_wrong.nd
  exact d_fn (T.fn .law_wrong) sc_law_wrong (fun cdv A outer s H E hr =>
    ds_cons (ds_set (i := 1) nd rfl (Or.inl rfl) (d_tup (da_cons (d_str) (da_cons (d_str) (da_nil)))))
    (ds_cons (ds_set (i := 2) nd rfl (Or.inl rfl) (d_lst (da_cons (d_non) (da_cons (d_bl) (da_cons (d_int) (da_cons (d_str) (da_cons (d_tup (da_nil)) (da_cons (d_tup (da_cons (d_str) (da_nil))) (da_cons (d_lst (da_cons (d_str) (da_cons (d_str) (da_nil)))) (da_cons (d_tup (da_cons (d_str) (da_cons (d_str) (da_cons (d_str) (da_nil))))) (da_cons (d_tup (da_cons (d_str) (da_cons (d_str) (da_nil)))) (da_cons (d_tup (da_cons (d_non) (da_cons (d_str) (da_nil)))) (da_nil)))))))))))))
    (ds_cons (ds_set (i := 2) nd rfl (Or.inl rfl) (d_add (d_var 2) (d_lst (da_cons (d_tup (da_cons (d_str) (da_cons (d_str) (da_nil)))) (da_cons (d_tup (da_cons (d_str) (da_cons (d_mul (d_str) (d_int)) (da_nil)))) (da_cons (d_tup (da_cons (d_str) (da_cons (d_int) (da_nil)))) (da_cons (d_tup (da_cons (d_str) (da_cons (d_tup (da_cons (d_str) (da_nil))) (da_nil)))) (da_cons (d_tup (da_cons (d_str) (da_cons (d_int) (da_nil)))) (da_cons (d_tup (da_cons (d_str) (da_cons (d_neg (d_int)) (da_nil)))) (da_nil))))))))))
    (ds_cons (ds_set (i := 2) nd rfl (Or.inl rfl) (d_add (d_var 2) (d_lst (da_cons (d_tup (da_cons (d_str) (da_cons (d_bl) (da_nil)))) (da_cons (d_tup (da_cons (d_str) (da_cons (d_str) (da_nil)))) (da_cons (d_tup (da_cons (d_str) (da_cons (d_non) (da_nil)))) (da_cons (d_tup (da_cons (d_str) (da_cons (d_lst (da_cons (d_var 1) (da_nil))) (da_nil)))) (da_cons (d_tup (da_cons (d_str) (da_cons (d_var 1) (da_nil)))) (da_cons (d_tup (da_cons (d_str) (da_cons (d_tup (da_cons (d_non) (da_nil))) (da_nil)))) (da_nil))))))))))
    (ds_cons (ds_set (i := 2) nd rfl (Or.inl rfl) (d_add (d_var 2) (d_lst (da_cons (d_tup (da_cons (d_str) (da_cons (d_tup (da_cons (d_var 1) (da_cons (d_tup (da_cons (d_str) (da_cons (d_int) (da_nil)))) (da_nil)))) (da_nil)))) (da_cons (d_tup (da_cons (d_str) (da_cons (d_lst (da_cons (d_tup (da_cons (d_str) (da_cons (d_str) (da_nil)))) (da_nil))) (da_nil)))) (da_cons (d_tup (da_cons (d_str) (da_cons (d_tup (da_cons (d_tup (da_cons (d_str) (da_cons (d_str) (da_nil)))) (da_cons (d_tup (da_cons (d_str) (da_cons (d_str) (da_nil)))) (da_nil)))) (da_nil)))) (da_nil)))))))
    (ds_cons (ds_set (i := 2) nd rfl (Or.inl rfl) (d_add (d_var 2) (d_lst (da_cons (d_tup (da_cons (d_str) (da_cons (d_tup (da_cons (d_tup (da_cons (d_int) (da_cons (d_str) (da_nil)))) (da_cons (d_tup (da_cons (d_int) (da_cons (d_str) (da_nil)))) (da_nil)))) (da_nil)))) (da_cons (d_tup (da_cons (d_str) (da_cons (d_tup (da_cons (d_tup (da_cons (d_bl) (da_cons (d_str) (da_nil)))) (da_nil))) (da_nil)))) (da_cons (d_tup (da_cons (d_str) (da_cons (d_tup (da_cons (d_tup (da_cons (d_mul (d_str) (d_int)) (da_cons (d_str) (da_nil)))) (da_nil))) (da_nil)))) (da_nil)))))))
    (ds_cons (ds_set (i := 2) nd rfl (Or.inl rfl) (d_add (d_var 2) (d_lst (da_cons (d_tup (da_cons (d_str) (da_cons (d_tup (da_cons (d_tup (da_cons (d_pow (d_int) (d_int)) (da_cons (d_str) (da_nil)))) (da_nil))) (da_nil)))) (da_cons (d_tup (da_cons (d_str) (da_cons (d_tup (da_cons (d_tup (da_cons (d_neg (d_pow (d_int) (d_int))) (da_cons (d_str) (da_nil)))) (da_nil))) (da_nil)))) (da_cons (d_tup (da_cons (d_str) (da_cons (d_tup (da_cons (d_tup (da_cons (d_str) (da_cons (d_str) (da_nil)))) (da_nil))) (da_nil)))) (da_nil)))))))
    (ds_cons (ds_set (i := 2) nd rfl (Or.inl rfl) (d_add (d_var 2) (d_lst (da_cons (d_tup (da_cons (d_str) (da_cons (d_tup (da_cons (d_tup (da_cons (d_str) (da_cons (d_str) (da_nil)))) (da_nil))) (da_nil)))) (da_cons (d_tup (da_cons (d_str) (da_cons (d_tup (da_cons (d_tup (da_cons (d_str) (da_cons (d_str) (da_nil)))) (da_nil))) (da_nil)))) (da_cons (d_tup (da_cons (d_str) (da_cons (d_tup (da_cons (d_tup (da_cons (d_str) (da_cons (d_str) (da_cons (d_str) (da_nil))))) (da_nil))) (da_nil)))) (da_nil)))))))
    (ds_cons (ds_set (i := 2) nd rfl (Or.inl rfl) (d_add (d_var 2) (d_lst (da_cons (d_tup (da_cons (d_str) (da_cons (d_tup (da_cons (d_lst (da_cons (d_str) (da_cons (d_str) (da_nil)))) (da_nil))) (da_nil)))) (da_cons (d_tup (da_cons (d_str) (da_cons (d_tup (da_cons (d_tup (da_cons (d_str) (da_cons (d_mul (d_str) (d_int)) (da_nil)))) (da_nil))) (da_nil)))) (da_cons (d_tup (da_cons (d_str) (da_cons (d_tup (da_cons (d_tup (da_cons (d_non) (da_cons (d_str) (da_nil)))) (da_nil))) (da_nil)))) (da_nil)))))))
    (ds_cons (ds_set (i := 2) nd rfl (Or.inl rfl) (d_add (d_var 2) (d_lst (da_cons (d_tup (da_cons (d_str) (da_cons (d_tup (da_cons (d_tup (da_cons (d_tup (da_nil)) (da_cons (d_str) (da_nil)))) (da_nil))) (da_nil)))) (da_cons (d_tup (da_cons (d_str) (da_cons (d_lst (da_cons (d_tup (da_cons (d_str) (da_cons (d_str) (da_cons (d_var 1) (da_nil))))) (da_nil))) (da_nil)))) (da_cons (d_tup (da_cons (d_str) (da_cons (d_tup (da_cons (d_tup (da_cons (d_str) (da_cons (d_str) (da_nil)))) (da_nil))) (da_nil)))) (da_nil)))))))
    (ds_cons (ds_set (i := 2) nd rfl (Or.inl rfl) (d_add (d_var 2) (d_lst (da_cons (d_tup (da_cons (d_str) (da_cons (d_tup (da_cons (d_tup (da_cons (d_str) (da_cons (d_str) (da_cons (d_var 1) (da_nil))))) (da_cons (d_tup (da_cons (d_str) (da_cons (d_str) (da_cons (d_var 1) (da_nil))))) (da_nil)))) (da_nil)))) (da_cons (d_tup (da_cons (d_str) (da_cons (d_tup (da_cons (d_tup (da_cons (d_int) (da_cons (d_str) (da_cons (d_var 1) (da_nil))))) (da_nil))) (da_nil)))) (da_nil))))))
    (ds_cons (ds_set (i := 2) nd rfl (Or.inl rfl) (d_add (d_var 2) (d_lst (da_cons (d_tup (da_cons (d_str) (da_cons (d_tup (da_cons (d_tup (da_cons (d_str) (da_cons (d_int) (da_cons (d_var 1) (da_nil))))) (da_nil))) (da_nil)))) (da_cons (d_tup (da_cons (d_str) (da_cons (d_tup (da_cons (d_tup (da_cons (d_str) (da_cons (d_str) (da_cons (d_non) (da_nil))))) (da_nil))) (da_nil)))) (da_cons (d_tup (da_cons (d_str) (da_cons (d_tup (da_cons (d_tup (da_cons (d_str) (da_cons (d_str) (da_cons (d_var 1) (da_nil))))) (da_nil))) (da_nil)))) (da_nil)))))))
    (ds_cons (ds_set (i := 2) nd rfl (Or.inl rfl) (d_add (d_var 2) (d_lst (da_cons (d_tup (da_cons (d_str) (da_cons (d_int) (da_cons (d_var 1) (da_nil))))) (da_cons (d_tup (da_cons (d_str) (da_cons (d_neg (d_int)) (da_cons (d_var 1) (da_nil))))) (da_cons (d_tup (da_cons (d_str) (da_cons (d_bl) (da_cons (d_var 1) (da_nil))))) (da_cons (d_tup (da_cons (d_str) (da_cons (d_var 1) (da_cons (d_int) (da_nil))))) (da_cons (d_tup (da_cons (d_str) (da_cons (d_int) (da_nil)))) (da_nil)))))))))
    (ds_cons (ds_set (i := 2) nd rfl (Or.inl rfl) (d_add (d_var 2) (d_lst (da_cons (d_tup (da_cons (d_str) (da_cons (d_var 1) (da_nil)))) (da_cons (d_tup (da_cons (d_str) (da_cons (d_int) (da_cons (d_var 1) (da_nil))))) (da_cons (d_tup (da_cons (d_str) (da_cons (d_var 1) (da_cons (d_non) (da_nil))))) (da_cons (d_tup (da_cons (d_str) (da_cons (d_var 1) (da_cons (d_var 1) (da_cons (d_var 1) (da_nil)))))) (da_nil))))))))
    (ds_cons (ds_set (i := 2) nd rfl (Or.inl rfl) (d_add (d_var 2) (d_lst (da_cons (d_tup (da_cons (d_str) (da_cons (d_str) (da_cons (d_var 1) (da_nil))))) (da_cons (d_tup (da_cons (d_str) (da_cons (d_str) (da_cons (d_var 1) (da_nil))))) (da_cons (d_tup (da_cons (d_str) (da_cons (d_var 1) (da_cons (d_str) (da_nil))))) (da_cons (d_tup (da_cons (d_str) (da_cons (d_str) (da_cons (d_var 1) (da_nil))))) (da_nil))))))))
    (ds_cons (ds_set (i := 2) nd rfl (Or.inl rfl) (d_add (d_var 2) (d_lst (da_cons (d_tup (da_cons (d_str) (da_cons (d_tup (da_nil)) (da_cons (d_var 1) (da_nil))))) (da_cons (d_tup (da_cons (d_str) (da_cons (d_mul (d_tup (da_cons (d_tup (da_cons (d_int) (da_cons (d_int) (da_cons (d_str) (da_nil))))) (da_nil))) (d_int)) (da_cons (d_var 1) (da_nil))))) (da_cons (d_tup (da_cons (d_str) (da_cons (d_tup (da_cons (d_tup (da_cons (d_int) (da_cons (d_int) (da_cons (d_str) (da_nil))))) (da_nil))) (da_cons (d_var 1) (da_nil))))) (da_nil)))))))
    (ds_cons (ds_set (i := 2) nd rfl (Or.inl rfl) (d_add (d_var 2) (d_lst (da_cons (d_tup (da_cons (d_str) (da_cons (d_tup (da_cons (d_tup (da_cons (d_int) (da_cons (d_int) (da_cons (d_str) (da_nil))))) (da_nil))) (da_cons (d_var 1) (da_nil))))) (da_cons (d_tup (da_cons (d_str) (da_cons (d_tup (da_cons (d_tup (da_cons (d_int) (da_cons (d_int) (da_cons (d_str) (da_nil))))) (da_nil))) (da_cons (d_var 1) (da_nil))))) (da_nil))))))
    (ds_cons (ds_set (i := 2) nd rfl (Or.inl rfl) (d_add (d_var 2) (d_lst (da_cons (d_tup (da_cons (d_str) (da_cons (d_tup (da_cons (d_tup (da_cons (d_int) (da_cons (d_int) (da_cons (d_str) (da_nil))))) (da_cons (d_tup (da_cons (d_int) (da_cons (d_int) (da_cons (d_str) (da_nil))))) (da_nil)))) (da_cons (d_var 1) (da_nil))))) (da_cons (d_tup (da_cons (d_str) (da_cons (d_tup (da_cons (d_tup (da_cons (d_bl) (da_cons (d_int) (da_cons (d_str) (da_nil))))) (da_nil))) (da_cons (d_var 1) (da_nil))))) (da_nil))))))
    (ds_cons (ds_set (i := 2) nd rfl (Or.inl rfl) (d_add (d_var 2) (d_lst (da_cons (d_tup (da_cons (d_str) (da_cons (d_tup (da_cons (d_tup (da_cons (d_int) (da_cons (d_neg (d_int)) (da_cons (d_str) (da_nil))))) (da_nil))) (da_cons (d_var 1) (da_nil))))) (da_cons (d_tup (da_cons (d_str) (da_cons (d_tup (da_cons (d_tup (da_cons (d_int) (da_cons (d_int) (da_nil)))) (da_nil))) (da_cons (d_var 1) (da_nil))))) (da_cons (d_tup (da_cons (d_str) (da_cons (d_lst (da_cons (d_tup (da_cons (d_int) (da_cons (d_int) (da_cons (d_str) (da_nil))))) (da_nil))) (da_cons (d_var 1) (da_nil))))) (da_nil)))))))
    (ds_cons (ds_set (i := 2) nd rfl (Or.inl rfl) (d_add (d_var 2) (d_lst (da_cons (d_tup (da_cons (d_str) (da_cons (d_str) (da_nil)))) (da_cons (d_tup (da_cons (d_str) (da_cons (d_str) (da_nil)))) (da_cons (d_tup (da_cons (d_str) (da_cons (d_str) (da_nil)))) (da_cons (d_tup (da_cons (d_str) (da_cons (d_mul (d_str) (d_int)) (da_nil)))) (da_cons (d_tup (da_cons (d_str) (da_cons (d_non) (da_nil)))) (da_cons (d_tup (da_cons (d_str) (da_cons (d_tup (da_cons (d_str) (da_nil))) (da_nil)))) (da_nil))))))))))
    (ds_cons (ds_set (i := 2) nd rfl (Or.inl rfl) (d_add (d_var 2) (d_lst (da_cons (d_tup (da_cons (d_str) (da_cons (d_str) (da_nil)))) (da_cons (d_call (G .law_deep) hr (by rfl) (T.mgF .law_deep) (T.kp .law_deep) (T.bd .law_deep) (da_cons (d_int) (da_cons (d_call (G .law_take) hr (by rfl) (T.mgF .law_take) (T.kp .law_take) (T.bd .law_take) (da_cons (d_var 0) (da_cons (d_int) (da_nil)))) (da_nil)))) (da_cons (d_tup (da_cons (d_str) (da_cons (d_tup (da_cons (d_tup (da_cons (d_str) (da_cons (d_str) (da_nil)))) (da_cons (d_non) (da_nil)))) (da_nil)))) (da_cons (d_tup (da_cons (d_lst (da_cons (d_str) (da_nil))) (da_cons (d_str) (da_nil)))) (da_nil))))))))
    (ds_cons (ds_set (i := 2) nd rfl (Or.inl rfl) (d_add (d_var 2) (d_lst (da_cons (d_tup (da_cons (d_str) (da_cons (d_tup (da_cons (d_tup (da_cons (d_mul (d_str) (d_int)) (da_cons (d_str) (da_cons (d_var 1) (da_nil))))) (da_nil))) (da_nil)))) (da_cons (d_tup (da_cons (d_str) (da_cons (d_tup (da_cons (d_tup (da_cons (d_str) (da_cons (d_str) (da_cons (d_var 1) (da_nil))))) (da_nil))) (da_nil)))) (da_cons (d_tup (da_cons (d_str) (da_cons (d_tup (da_cons (d_tup (da_cons (d_str) (da_cons (d_str) (da_nil)))) (da_nil))) (da_nil)))) (da_nil)))))))
    (ds_cons (ds_set (i := 2) nd rfl (Or.inl rfl) (d_add (d_var 2) (d_lst (da_cons (d_tup (da_cons (d_str) (da_cons (d_tup (da_cons (d_tup (da_cons (d_str) (da_cons (d_int) (da_nil)))) (da_nil))) (da_nil)))) (da_cons (d_tup (da_cons (d_str) (da_cons (d_tup (da_cons (d_tup (da_cons (d_str) (da_cons (d_non) (da_nil)))) (da_nil))) (da_nil)))) (da_cons (d_tup (da_cons (d_str) (da_cons (d_tup (da_cons (d_tup (da_cons (d_str) (da_cons (d_mul (d_str) (d_int)) (da_cons (d_var 1) (da_nil))))) (da_nil))) (da_nil)))) (da_nil)))))))
    (ds_cons (ds_set (i := 2) nd rfl (Or.inl rfl) (d_add (d_var 2) (d_lst (da_cons (d_tup (da_cons (d_str) (da_cons (d_tup (da_cons (d_lst (da_cons (d_str) (da_cons (d_str) (da_cons (d_var 1) (da_nil))))) (da_nil))) (da_nil)))) (da_cons (d_tup (da_cons (d_str) (da_cons (d_tup (da_cons (d_tup (da_cons (d_int) (da_cons (d_int) (da_cons (d_str) (da_nil))))) (da_nil))) (da_cons (d_var 1) (da_nil))))) (da_cons (d_tup (da_cons (d_str) (da_cons (d_tup (da_cons (d_tup (da_cons (d_int) (da_cons (d_int) (da_cons (d_int) (da_nil))))) (da_nil))) (da_cons (d_var 1) (da_nil))))) (da_nil)))))))
    (ds_cons (ds_set (i := 2) nd rfl (Or.inl rfl) (d_add (d_var 2) (d_lst (da_cons (d_tup (da_cons (d_str) (da_cons (d_tup (da_cons (d_tup (da_cons (d_int) (da_cons (d_bl) (da_cons (d_str) (da_nil))))) (da_nil))) (da_cons (d_var 1) (da_nil))))) (da_cons (d_tup (da_cons (d_str) (da_cons (d_tup (da_cons (d_tup (da_cons (d_lst (da_nil)) (da_cons (d_str) (da_nil)))) (da_nil))) (da_nil)))) (da_cons (d_tup (da_cons (d_str) (da_cons (d_tup (da_cons (d_tup (da_cons (d_lst (da_nil)) (da_cons (d_str) (da_cons (d_var 1) (da_nil))))) (da_nil))) (da_nil)))) (da_nil)))))))
    (ds_cons (ds_set (i := 2) nd rfl (Or.inl rfl) (d_add (d_var 2) (d_lst (da_cons (d_tup (da_cons (d_str) (da_cons (d_tup (da_cons (d_tup (da_cons (d_str) (da_cons (d_str) (da_nil)))) (da_cons (d_tup (da_cons (d_str) (da_cons (d_str) (da_nil)))) (da_cons (d_tup (da_cons (d_str) (da_cons (d_str) (da_nil)))) (da_nil))))) (da_nil)))) (da_cons (d_tup (da_cons (d_str) (da_cons (d_tup (da_cons (d_tup (da_cons (d_int) (da_cons (d_int) (da_cons (d_str) (da_nil))))) (da_cons (d_tup (da_cons (d_int) (da_cons (d_int) (da_cons (d_str) (da_nil))))) (da_cons (d_tup (da_cons (d_int) (da_cons (d_int) (da_cons (d_str) (da_nil))))) (da_nil))))) (da_cons (d_var 1) (da_nil))))) (da_nil))))))
    (ds_cons (ds_set (i := 2) nd rfl (Or.inl rfl) (d_add (d_var 2) (d_lst (da_cons (d_tup (da_cons (d_str) (da_cons (d_tup (da_cons (d_tup (da_cons (d_str) (da_cons (d_str) (da_cons (d_var 1) (da_nil))))) (da_cons (d_tup (da_cons (d_str) (da_cons (d_str) (da_cons (d_var 1) (da_nil))))) (da_cons (d_tup (da_cons (d_str) (da_cons (d_str) (da_cons (d_var 1) (da_nil))))) (da_nil))))) (da_nil)))) (da_nil)))))
    (ds_one (ds_ret (d_item (d_var 2) (d_call (G .law_take) hr (by rfl) (T.mgF .law_take) (T.kp .law_take) (T.bd .law_take) (da_cons (d_var 0) (da_cons (d_len (by rfl) T.b_len (d_var 2)) (da_nil))))))))))))))))))))))))))))))))))
end
end KK
end
section
set_option Elab.async false
set_option linter.all false
set_option maxRecDepth 100000
set_option maxHeartbeats 4000000
namespace KK
open PySem PySem.Spec PyProof.Rows L2 DL
section
variable {P : Program} {w : World} {K : PySem.W.Frag} {mg : Str → Option Value} {base : Heap} {ad : Fid → Addr} {fd : Fid → FuncData} {n : Nat} {c : Fid → FD}
theorem ok_law_known (T : Txt K mg ad fd) : FnOk P w K mg base CX0 (n + 1) (ad .law_known) (fd .law_known) (ps .law_known) (spK knownG) := by
  have nd := sc_law_known.nd
  refine (T.fn .law_known).ok sc_law_known (fun vs H Q E h => ?_) (fun cdv A outer s H vs Q E hr h => ⟨_, pss_cons (ps_set (i := 1) nd rfl (Or.inl rfl) pe_dnewK)
    (pss_cons (ps_for PassesOwn.never rfl (di_seq (d_item (d_var 0) d_int)) (pg_name (i := 2) nd rfl (Or.inl rfl)) (pss_one (ps_dput (hu_of hr) (pv 1) (d_item (d_var 2) d_int) (d_item (d_var 2) d_int) rfl))) (pss_one (ps_ret (pv 1)))), ?_⟩)
  · obtain ⟨μ, ds, m, kvs, rs, ok, e, _⟩ := h
    match ds, e with
    | [s], e => rw [rs.length]; rfl
  · obtain ⟨μ, ds, m, kvs, rs, ok, e, q⟩ := h
    refine known_pure rfl ?_ rs ok e q
    match ds, e with
    | [s], e =>
      cases rs with
      | cons r0 rn => cases rn; rfl
end
end KK
end
section
set_option Elab.async false
set_option linter.all false
set_option maxRecDepth 100000
set_option maxHeartbeats 4000000
namespace KK
open PySem PySem.Spec PyProof.Rows L2 DL

section
variable {P : Program} {w : World} {K : PySem.W.Frag} {mg : Str → Option Value} {base : Heap} {ad : Fid → Addr} {fd : Fid → FuncData} {n : Nat} {c : Fid → FD}

/-- each def by the others -/
def step (c : Fid → FD) : Fid → FD
  | .is_integer => fnD 1 1 (b_is_integer c)
  | .is_string => fnD 1 1 (b_is_string c)
  | .is_tuple => fnD 1 1 (b_is_tuple c)
  | .is_within => fnD 3 3 (b_is_within c)
  | .is_tuple_of => fnD 2 2 (b_is_tuple_of c)
  | .is_sign => fnD 1 1 (b_is_sign c)
  | .is_text => fnD 1 2 (b_is_text c)
  | .is_atom => fnD 1 1 (b_is_atom c)
  | .is_bits => fnD 1 1 (b_is_bits c)
  | .is_bits_of => fnD 3 3 (b_is_bits_of c)
  | .is_name => fnD 1 2 (b_is_name c)
  | .is_path => fnD 1 2 (b_is_path c)
  | .is_ascending => fnD 1 2 (b_is_ascending c)
  | .is_bits_term => fnD 2 2 (b_is_bits_term c)
  | .is_table_row => fnD 1 1 (b_is_table_row c)
  | .is_table_term => fnD 2 3 (b_is_table_term c)
  | .is_width_term => fnD 2 2 (b_is_width_term c)
  | .is_row_term => fnD 2 3 (b_is_row_term c)
  | .is_way => fnD 2 2 (b_is_way c)
  | .is_either_term => fnD 2 3 (b_is_either_term c)
  | .is_times_term => fnD 2 2 (b_is_times_term c)
  | .is_two_part_term => fnD 2 2 (b_is_two_part_term c)
  | .is_until_term => fnD 2 2 (b_is_until_term c)
  | .is_machine_row => fnD 2 2 (b_is_machine_row c)
  | .is_machine => fnD 1 2 (b_is_machine c)
  | .is_checked_term => fnD 2 2 (b_is_checked_term c)
  | .is_ref_term => fnD 2 2 (b_is_ref_term c)
  | .is_term_within => fnD 2 3 (sSeq (b0_is_term_within c) (formTail c))
  | .is_any_term => fnD 1 1 (b_is_any_term c)
  | .is_entry => fnD 1 1 (b_is_entry c)
  | .is_any_sheet => fnD 1 6 (b_is_any_sheet c)
  | .parts_of => fnD 1 3 (b_parts_of c)
  | .refs_of => fnD 1 3 (b_refs_of c)
  | .term_at => fnD 2 4 (b_term_at c)
  | .paths_of => fnD 1 5 (b_paths_of c)
  | .term_of_name => fnD 2 4 (b_term_of_name c)
  | .is_place_of => fnD 2 3 (b_is_place_of c)
  | .need_sheet => fnD 1 1 (b_need_sheet c)
  | .need_place => fnD 2 2 (b_need_place c)
  | .is_term => fnD 1 1 (b_is_term c)
  | .is_sheet => fnD 1 1 (b_is_sheet c)
  | .places => fnD 1 4 (b_places c)
  | .part => fnD 2 2 (b_part c)
  | .law_take => fnD 2 2 (b_law_take c)
  | .law_bits => fnD 2 3 (b_law_bits c)
  | .law_atom => fnD 2 2 (b_law_atom c)
  | .law_label => fnD 2 2 (b_law_label c)
  | .law_machine => fnD 1 4 (b_law_machine c)
  | .law_names => fnD 2 6 (b_law_names c)
  | .law_same => fnD 2 3 (b_law_same c)
  | .law_parts => fnD 1 3 (b_law_parts c)
  | .law_paths => fnD 2 5 (b_law_paths c)
  | .law_at => fnD 2 3 (b_law_at c)
  | .law_put => fnD 3 6 (b_law_put c)
  | .law_places => fnD 1 4 (b_law_places c)
  | .law_laid => fnD 3 5 (b_law_laid c)
  | .law_loose => fnD 3 8 (b_law_loose c)
  | .law_loose_sheet => fnD 1 4 (b_law_loose_sheet c)
  | .law_deep => fnD 2 5 (b_law_deep c)
  | .law_right => fnD 1 3 (b_law_right c)
  | .law_wrong => fnD 1 3 (b_law_wrong c)
  | .law_around => fnD 2 7 (b_law_around c)
  | .law_bent => fnD 3 8 (b_law_bent c)
  | _ => fun _ _ => none
def F : Nat → Fid → FD
  | 0 => fun _ _ _ => none
  | n + 1 => step (F n)
theorem all_ok (T : Txt K mg ad fd) (FM : Forms K w mg ad) : ∀ n, Gs P w K mg base ad fd n (F n)
  | 0 => fun _ => d_never
  | n + 1 => fun i => by
    have G := all_ok T FM n
    cases i with
    | is_integer => exact ok_is_integer T G
    | is_string => exact ok_is_string T G
    | is_tuple => exact ok_is_tuple T G
    | is_within => exact ok_is_within T G
    | is_tuple_of => exact ok_is_tuple_of T G
    | is_sign => exact ok_is_sign T G
    | is_text => exact ok_is_text T G
    | is_atom => exact ok_is_atom T G
    | is_bits => exact ok_is_bits T G
    | is_bits_of => exact ok_is_bits_of T G
    | is_name => exact ok_is_name T G
    | is_path => exact ok_is_path T G
    | is_ascending => exact ok_is_ascending T G
    | is_bits_term => exact ok_is_bits_term T G
    | is_table_row => exact ok_is_table_row T G
    | is_table_term => exact ok_is_table_term T G
    | is_width_term => exact ok_is_width_term T G
    | is_row_term => exact ok_is_row_term T G
    | is_way => exact ok_is_way T G
    | is_either_term => exact ok_is_either_term T G
    | is_times_term => exact ok_is_times_term T G
    | is_two_part_term => exact ok_is_two_part_term T G
    | is_until_term => exact ok_is_until_term T G
    | is_machine_row => exact ok_is_machine_row T G
    | is_machine => exact ok_is_machine T G
    | is_checked_term => exact ok_is_checked_term T G
    | is_ref_term => exact ok_is_ref_term T G
    | is_term_within => exact ok2_is_term_within T FM G
    | is_any_term => exact ok_is_any_term T G
    | is_entry => exact ok_is_entry T G
    | is_any_sheet => exact ok_is_any_sheet T G
    | parts_of => exact ok_parts_of T G
    | refs_of => exact ok_refs_of T G
    | term_at => exact ok_term_at T G
    | paths_of => exact ok_paths_of T G
    | term_of_name => exact ok_term_of_name T G
    | is_place_of => exact ok_is_place_of T G
    | need_sheet => exact ok_need_sheet T G
    | need_place => exact ok_need_place T G
    | is_term => exact ok_is_term T G
    | is_sheet => exact ok_is_sheet T G
    | places => exact ok_places T G
    | part => exact ok_part T G
    | rooted => exact d_never
    | trimmed => exact d_never
    | lifted => exact d_never
    | inlined => exact d_never
    | changed => exact d_never
    | grafted => exact d_never
    | renamed => exact d_never
    | unrolled => exact d_never
    | law_bag => exact d_never
    | law_take => exact ok_law_take T G
    | law_bits => exact ok_law_bits T G
    | law_atom => exact ok_law_atom T G
    | law_label => exact ok_law_label T G
    | law_machine => exact ok_law_machine T G
    | law_names => exact ok_law_names T G
    | law_known => exact d_never
    | law_same => exact ok_law_same T G
    | law_parts => exact ok_law_parts T G
    | law_paths => exact ok_law_paths T G
    | law_at => exact ok_law_at T G
    | law_put => exact ok_law_put T G
    | law_places => exact ok_law_places T G
    | law_laid => exact ok_law_laid T G
    | law_loose => exact ok_law_loose T G
    | law_loose_sheet => exact ok_law_loose_sheet T G
    | law_deep => exact ok_law_deep T G
    | law_right => exact ok_law_right T G
    | law_wrong => exact ok_law_wrong T G
    | law_around => exact ok_law_around T G
    | law_bent => exact ok_law_bent T G
    | law_asked => exact d_never
    | law_spots => exact d_never
    | law => exact d_never
end
end KK
end
section
set_option Elab.async false
set_option linter.all false
set_option maxRecDepth 100000
namespace KK
open PySem PySem.Spec PyProof.Rows L2 DL
def c2 (n : Nat) (cl : Cid → Addr) : Fid → FD
  | .law_asked => fnD 4 6 (b_law_asked (F n) cl)
  | i => F n i
def c3 (n : Nat) (cl : Cid → Addr) : Fid → FD
  | .law_spots => fnD 3 7 (b_law_spots (c2 n cl) (fnN 1 4 (bn_places (F n))))
  | i => c2 n cl i
def lawF (n : Nat) (cl : Cid → Addr) : FD := fnD 1 10 (b_law (c3 n cl) (fnN 2 6 (bn_law_bag (F n))))
end KK
end
section
set_option Elab.async false
set_option linter.all false
set_option maxRecDepth 100000
set_option maxHeartbeats 4000000
namespace KK
open PySem PySem.Spec PyProof.Rows L2 DL

section
variable {P : Program} {w : World} {K : PySem.W.Frag} {mg : Str → Option Value} {base : Heap} {ad : Fid → Addr} {fd : Fid → FuncData} {cl : Cid → Addr} {cw : Addr}
abbrev nbag (n : Nat) : FDN := fnN 2 6 (bn_law_bag (F n))
abbrev nplc (n : Nat) : FDN := fnN 1 4 (bn_places (F n))
theorem assemble (N : Nat) (T : Txt K mg ad fd) (FM : Forms K w mg ad) (CT : CTxt K mg cl cw) (KB : KBs fd) {wd : D} (h1 : ∀ ε, w_law ε [] = some (wd, [])) (h2 : t_law (c3 N cl) [none, some wd, none, none, none, none, none, none, none, none] [] = some (false, []))
    (h3 : ∀ ns : List Int, ns.length ≤ 63 → ∃ ε' m', loopD (stN 2) (l_law (c3 N cl) (nbag N)) (cells ns) [none, some wd, none, none, none, none, none, none, none, none] [] = some (.nx ε' m')) :
    FnOk P w K mg base CX0 (N + 5) (ad .law) (fd .law) (ps .law) (spLaw K) := by
  have G0 : Gs P w K mg base ad fd N (F N) := all_ok T FM N
  have G1 : Gs P w K mg base ad fd (N + 1) (F N) := fun i => (G0 i).mono (by omega)
  have G2 : Gs P w K mg base ad fd (N + 2) (F N) := fun i => (G0 i).mono (by omega)
  have GX1' : GX1 P w K mg base ad fd (N + 1) (F N) cl := ⟨okx_need_sheet T G0 CT.ex1 ⟨trivial⟩, okx_need_place T G0 CT.ex1 ⟨trivial⟩⟩
  have GX2' : GX2 P w K mg base ad fd (N + 2) (F N) cl := ⟨okx_places T G1 CT.ex1 GX1', okx_part T G1 CT.ex1 GX1', okx_lifted T G1 CT.ex1 GX1', okx_inlined T G1 CT.ex1 GX1', okx_changed T G1 CT.ex1 GX1', okx_grafted T G1 CT.ex1 GX1', okx_renamed T G1 CT.ex1 GX1', okx_rooted T G1 CT.ex1 GX1', okx_trimmed T G1 CT.ex1 GX1', okx_unrolled T G1 CT.ex1 GX1'⟩
  have A := ok_law_asked T CT KB GX2'
  have G3 : Gs P w K mg base ad fd (N + 3) (c2 N cl) := fun i => by
    cases i with
    | law_asked => exact A
    | is_integer => exact (G0 .is_integer).mono (by omega)
    | is_string => exact (G0 .is_string).mono (by omega)
    | is_tuple => exact (G0 .is_tuple).mono (by omega)
    | is_within => exact (G0 .is_within).mono (by omega)
    | is_tuple_of => exact (G0 .is_tuple_of).mono (by omega)
    | is_sign => exact (G0 .is_sign).mono (by omega)
    | is_text => exact (G0 .is_text).mono (by omega)
    | is_atom => exact (G0 .is_atom).mono (by omega)
    | is_bits => exact (G0 .is_bits).mono (by omega)
    | is_bits_of => exact (G0 .is_bits_of).mono (by omega)
    | is_name => exact (G0 .is_name).mono (by omega)
    | is_path => exact (G0 .is_path).mono (by omega)
    | is_ascending => exact (G0 .is_ascending).mono (by omega)
    | is_bits_term => exact (G0 .is_bits_term).mono (by omega)
    | is_table_row => exact (G0 .is_table_row).mono (by omega)
    | is_table_term => exact (G0 .is_table_term).mono (by omega)
    | is_width_term => exact (G0 .is_width_term).mono (by omega)
    | is_row_term => exact (G0 .is_row_term).mono (by omega)
    | is_way => exact (G0 .is_way).mono (by omega)
    | is_either_term => exact (G0 .is_either_term).mono (by omega)
    | is_times_term => exact (G0 .is_times_term).mono (by omega)
    | is_two_part_term => exact (G0 .is_two_part_term).mono (by omega)
    | is_until_term => exact (G0 .is_until_term).mono (by omega)
    | is_machine_row => exact (G0 .is_machine_row).mono (by omega)
    | is_machine => exact (G0 .is_machine).mono (by omega)
    | is_checked_term => exact (G0 .is_checked_term).mono (by omega)
    | is_ref_term => exact (G0 .is_ref_term).mono (by omega)
    | is_term_within => exact (G0 .is_term_within).mono (by omega)
    | is_any_term => exact (G0 .is_any_term).mono (by omega)
    | is_entry => exact (G0 .is_entry).mono (by omega)
    | is_any_sheet => exact (G0 .is_any_sheet).mono (by omega)
    | parts_of => exact (G0 .parts_of).mono (by omega)
    | refs_of => exact (G0 .refs_of).mono (by omega)
    | term_at => exact (G0 .term_at).mono (by omega)
    | paths_of => exact (G0 .paths_of).mono (by omega)
    | term_of_name => exact (G0 .term_of_name).mono (by omega)
    | is_place_of => exact (G0 .is_place_of).mono (by omega)
    | need_sheet => exact (G0 .need_sheet).mono (by omega)
    | need_place => exact (G0 .need_place).mono (by omega)
    | is_term => exact (G0 .is_term).mono (by omega)
    | is_sheet => exact (G0 .is_sheet).mono (by omega)
    | places => exact (G0 .places).mono (by omega)
    | part => exact (G0 .part).mono (by omega)
    | rooted => exact (G0 .rooted).mono (by omega)
    | trimmed => exact (G0 .trimmed).mono (by omega)
    | lifted => exact (G0 .lifted).mono (by omega)
    | inlined => exact (G0 .inlined).mono (by omega)
    | changed => exact (G0 .changed).mono (by omega)
    | grafted => exact (G0 .grafted).mono (by omega)
    | renamed => exact (G0 .renamed).mono (by omega)
    | unrolled => exact (G0 .unrolled).mono (by omega)
    | law_bag => exact (G0 .law_bag).mono (by omega)
    | law_take => exact (G0 .law_take).mono (by omega)
    | law_bits => exact (G0 .law_bits).mono (by omega)
    | law_atom => exact (G0 .law_atom).mono (by omega)
    | law_label => exact (G0 .law_label).mono (by omega)
    | law_machine => exact (G0 .law_machine).mono (by omega)
    | law_names => exact (G0 .law_names).mono (by omega)
    | law_known => exact (G0 .law_known).mono (by omega)
    | law_same => exact (G0 .law_same).mono (by omega)
    | law_parts => exact (G0 .law_parts).mono (by omega)
    | law_paths => exact (G0 .law_paths).mono (by omega)
    | law_at => exact (G0 .law_at).mono (by omega)
    | law_put => exact (G0 .law_put).mono (by omega)
    | law_places => exact (G0 .law_places).mono (by omega)
    | law_laid => exact (G0 .law_laid).mono (by omega)
    | law_loose => exact (G0 .law_loose).mono (by omega)
    | law_loose_sheet => exact (G0 .law_loose_sheet).mono (by omega)
    | law_deep => exact (G0 .law_deep).mono (by omega)
    | law_right => exact (G0 .law_right).mono (by omega)
    | law_wrong => exact (G0 .law_wrong).mono (by omega)
    | law_around => exact (G0 .law_around).mono (by omega)
    | law_bent => exact (G0 .law_bent).mono (by omega)
    | law_spots => exact (G0 .law_spots).mono (by omega)
    | law => exact (G0 .law).mono (by omega)
  have GN : GNs P w K mg base ad fd (N + 3) (nbag N) (nplc N) := ⟨(okn_law_bag T G0).mono (by omega), (okn_places T G0).mono (by omega), (ok_law_known (n := N) T).mono (by omega)⟩
  have S := ok_law_spots T KB G3 GN
  have G4 : Gs P w K mg base ad fd (N + 4) (c3 N cl) := fun i => by
    cases i with
    | law_spots => exact S
    | is_integer => exact (G3 .is_integer).mono (by omega)
    | is_string => exact (G3 .is_string).mono (by omega)
    | is_tuple => exact (G3 .is_tuple).mono (by omega)
    | is_within => exact (G3 .is_within).mono (by omega)
    | is_tuple_of => exact (G3 .is_tuple_of).mono (by omega)
    | is_sign => exact (G3 .is_sign).mono (by omega)
    | is_text => exact (G3 .is_text).mono (by omega)
    | is_atom => exact (G3 .is_atom).mono (by omega)
    | is_bits => exact (G3 .is_bits).mono (by omega)
    | is_bits_of => exact (G3 .is_bits_of).mono (by omega)
    | is_name => exact (G3 .is_name).mono (by omega)
    | is_path => exact (G3 .is_path).mono (by omega)
    | is_ascending => exact (G3 .is_ascending).mono (by omega)
    | is_bits_term => exact (G3 .is_bits_term).mono (by omega)
    | is_table_row => exact (G3 .is_table_row).mono (by omega)
    | is_table_term => exact (G3 .is_table_term).mono (by omega)
    | is_width_term => exact (G3 .is_width_term).mono (by omega)
    | is_row_term => exact (G3 .is_row_term).mono (by omega)
    | is_way => exact (G3 .is_way).mono (by omega)
    | is_either_term => exact (G3 .is_either_term).mono (by omega)
    | is_times_term => exact (G3 .is_times_term).mono (by omega)
    | is_two_part_term => exact (G3 .is_two_part_term).mono (by omega)
    | is_until_term => exact (G3 .is_until_term).mono (by omega)
    | is_machine_row => exact (G3 .is_machine_row).mono (by omega)
    | is_machine => exact (G3 .is_machine).mono (by omega)
    | is_checked_term => exact (G3 .is_checked_term).mono (by omega)
    | is_ref_term => exact (G3 .is_ref_term).mono (by omega)
    | is_term_within => exact (G3 .is_term_within).mono (by omega)
    | is_any_term => exact (G3 .is_any_term).mono (by omega)
    | is_entry => exact (G3 .is_entry).mono (by omega)
    | is_any_sheet => exact (G3 .is_any_sheet).mono (by omega)
    | parts_of => exact (G3 .parts_of).mono (by omega)
    | refs_of => exact (G3 .refs_of).mono (by omega)
    | term_at => exact (G3 .term_at).mono (by omega)
    | paths_of => exact (G3 .paths_of).mono (by omega)
    | term_of_name => exact (G3 .term_of_name).mono (by omega)
    | is_place_of => exact (G3 .is_place_of).mono (by omega)
    | need_sheet => exact (G3 .need_sheet).mono (by omega)
    | need_place => exact (G3 .need_place).mono (by omega)
    | is_term => exact (G3 .is_term).mono (by omega)
    | is_sheet => exact (G3 .is_sheet).mono (by omega)
    | places => exact (G3 .places).mono (by omega)
    | part => exact (G3 .part).mono (by omega)
    | rooted => exact (G3 .rooted).mono (by omega)
    | trimmed => exact (G3 .trimmed).mono (by omega)
    | lifted => exact (G3 .lifted).mono (by omega)
    | inlined => exact (G3 .inlined).mono (by omega)
    | changed => exact (G3 .changed).mono (by omega)
    | grafted => exact (G3 .grafted).mono (by omega)
    | renamed => exact (G3 .renamed).mono (by omega)
    | unrolled => exact (G3 .unrolled).mono (by omega)
    | law_bag => exact (G3 .law_bag).mono (by omega)
    | law_take => exact (G3 .law_take).mono (by omega)
    | law_bits => exact (G3 .law_bits).mono (by omega)
    | law_atom => exact (G3 .law_atom).mono (by omega)
    | law_label => exact (G3 .law_label).mono (by omega)
    | law_machine => exact (G3 .law_machine).mono (by omega)
    | law_names => exact (G3 .law_names).mono (by omega)
    | law_known => exact (G3 .law_known).mono (by omega)
    | law_same => exact (G3 .law_same).mono (by omega)
    | law_parts => exact (G3 .law_parts).mono (by omega)
    | law_paths => exact (G3 .law_paths).mono (by omega)
    | law_at => exact (G3 .law_at).mono (by omega)
    | law_put => exact (G3 .law_put).mono (by omega)
    | law_places => exact (G3 .law_places).mono (by omega)
    | law_laid => exact (G3 .law_laid).mono (by omega)
    | law_loose => exact (G3 .law_loose).mono (by omega)
    | law_loose_sheet => exact (G3 .law_loose_sheet).mono (by omega)
    | law_deep => exact (G3 .law_deep).mono (by omega)
    | law_right => exact (G3 .law_right).mono (by omega)
    | law_wrong => exact (G3 .law_wrong).mono (by omega)
    | law_around => exact (G3 .law_around).mono (by omega)
    | law_bent => exact (G3 .law_bent).mono (by omega)
    | law_asked => exact (G3 .law_asked).mono (by omega)
    | law => exact (G3 .law).mono (by omega)
  have GN4 : GNs P w K mg base ad fd (N + 4) (nbag N) (nplc N) := ⟨GN.law_bag.mono (by omega), GN.places.mono (by omega), GN.law_known.mono (by omega)⟩
  exact ok_lawS T KB G4 GN4 h1 h2 h3
end

/-- a def stands in the text -/
def DefAt (K : PySem.W.Frag) (x : Str) (st : Stmt) : Prop := ∃ (f : Addr) (oc : Value) (od : Option Addr) (kV dc pm : Value) (an : Option Addr) (cd ct : Value) (sl : Array (Option Value)),
  PySem.W.nsIn K mainGlobals x = some (some (.ref f)) ∧ K.lookup f = some ⟨oc, od, .func (PySem.W.fnOf x x (defArgs st) (defBody st) (defScope st) .none kV dc pm an cd ct), sl⟩ ∧ PySem.W.codeIn K cd x = true ∧ PySem.W.keepIn K (.ref f) = true
theorem defAt_mk {K : PySem.W.Frag} {x : Str} {st : Stmt} {f : Addr} {oc : Value} {od : Option Addr} {kV dc pm : Value} {an : Option Addr} {cd ct : Value} {sl : Array (Option Value)}
  (a : PySem.W.nsIn K mainGlobals x = some (some (.ref f))) (l : K.lookup f = some ⟨oc, od, .func (PySem.W.fnOf x x (defArgs st) (defBody st) (defScope st) .none kV dc pm an cd ct), sl⟩) (c : PySem.W.codeIn K cd x = true) (k : PySem.W.keepIn K (.ref f) = true) : DefAt K x st := ⟨f, oc, od, kV, dc, pm, an, cd, ct, sl, a, l, c, k⟩
structure ExcAt (K : PySem.W.Frag) (C : Addr) : Prop where
  x : PySem.W.excIn K C [.type "ValueError", .type "Exception", .type "BaseException", .type "object"] "ValueError.__new__" = true
  k : PySem.W.keepIn K (.ref C) = true
  b : PySem.W.subIn K (.ref C) (.type "BaseException") = some true
  t : PySem.W.typeIn K (.ref C) = some (.type "type")
  e : ExcC K C

theorem isStrZ (s z : Str) (t : Tok) : (Value.str s t).isStr z = decide (z = s) := by
  unfold Value.isStr
  by_cases h : z = s
  · subst h; simp
  · simp [h]
    intro e; exact h e.symm
theorem find_one {es : List DictEntry} {h : Int} {s z : Str} {t : Tok} {v : Value} : ((⟨h, .str s t, v⟩ :: es : List DictEntry).find? (·.key.isStr z)).map (·.val) = if z = s then some v else (es.find? (·.key.isStr z)).map (·.val) := by
  rw [List.find?_cons]
  simp only [isStrZ]
  by_cases e : z = s
  · simp [e]
  · simp [e]
theorem ns_map {K : PySem.W.Frag} {d : Addr} {cls : Value} {dd : Option Addr} {sl : Array (Option Value)} {n : Nat} {es : List DictEntry} (l : K.lookup d = some ⟨cls, dd, .dict es.toArray n, sl⟩) (hr : es.any (·.refKey) = false) (z : Str) :
    PySem.W.nsIn K d z = some ((es.find? (·.key.isStr z)).map (·.val)) := by
  unfold PySem.W.nsIn
  rw [l]
  show (match es.find? (·.key.isStr z) with | some e => some (some e.val) | none => if es.any (·.refKey) = true then none else some none) = _
  cases es.find? (·.key.isStr z) with
  | none => rw [hr]; rfl
  | some e => rfl
theorem formNs {K : PySem.W.Frag} {d : Addr} {cls : Value} {dd : Option Addr} {sl : Array (Option Value)} {n : Nat} {q0 q1 q2 q3 q4 q5 q6 q7 q8 q9 q10 : Int} {t0 t1 t2 t3 t4 t5 t6 t7 t8 t9 t10 : Tok} {v0 v1 v2 v3 v4 v5 v6 v7 v8 v9 v10 : Value} (l : K.lookup d = some ⟨cls, dd, .dict #[⟨q0, .str "bits" t0, v0⟩, ⟨q1, .str "table" t1, v1⟩, ⟨q2, .str "width" t2, v2⟩, ⟨q3, .str "row" t3, v3⟩, ⟨q4, .str "either" t4, v4⟩, ⟨q5, .str "times" t5, v5⟩, ⟨q6, .str "counted" t6, v6⟩, ⟨q7, .str "until" t7, v7⟩, ⟨q8, .str "sized" t8, v8⟩, ⟨q9, .str "checked" t9, v9⟩, ⟨q10, .str "ref" t10, v10⟩] n, sl⟩) (z : Str) :
    PySem.W.nsIn K d z = some (if z = Str.ofString "bits" then some v0 else if z = Str.ofString "table" then some v1 else if z = Str.ofString "width" then some v2 else if z = Str.ofString "row" then some v3 else if z = Str.ofString "either" then some v4 else if z = Str.ofString "times" then some v5 else if z = Str.ofString "counted" then some v6 else if z = Str.ofString "until" then some v7 else if z = Str.ofString "sized" then some v8 else if z = Str.ofString "checked" then some v9 else if z = Str.ofString "ref" then some v10 else none) := by
  rw [ns_map (es := [⟨q0, .str "bits" t0, v0⟩, ⟨q1, .str "table" t1, v1⟩, ⟨q2, .str "width" t2, v2⟩, ⟨q3, .str "row" t3, v3⟩, ⟨q4, .str "either" t4, v4⟩, ⟨q5, .str "times" t5, v5⟩, ⟨q6, .str "counted" t6, v6⟩, ⟨q7, .str "until" t7, v7⟩, ⟨q8, .str "sized" t8, v8⟩, ⟨q9, .str "checked" t9, v9⟩, ⟨q10, .str "ref" t10, v10⟩]) l rfl z]
  simp only [find_one, List.find?_nil, Option.map_none]
theorem kit_self {K : PySem.W.Frag} (t : Value) (h : (t == t) = true) : PySem.W.kitOne K t t = some true := by
  unfold PySem.W.kitOne
  rw [if_pos h]
theorem kit_other {K : PySem.W.Frag} {C D : Addr} {b : Bool} (hn : C ≠ D) (h1 : PySem.W.isClsIn K D = true) (h2 : PySem.W.typeIn K (.ref D) = some (.type "type")) (h4 : PySem.W.subIn K (.ref C) (.ref D) = some b) : PySem.W.kitOne K (.ref C) (.ref D) = some b := by
  have e2 : ((PySem.W.clsIn K D).isSome && PySem.W.typeIn K (.ref D) == some (.type "type")) = true := by
    have h2' : (PySem.W.clsIn K D).isSome = true := h1
    rw [h2', h2] <;> rfl
  have e0 : ¬ ((Value.ref C == Value.ref D) = true) := fun z => hn (Value.ref.inj (beq_iff_eq.mp z))
  unfold PySem.W.kitOne PySem.W.kitCls
  rw [if_neg e0]
  show (if ((PySem.W.clsIn K D).isSome && PySem.W.typeIn K (.ref D) == some (.type "type")) = true then PySem.W.subIn K (.ref C) (.ref D) else none) = some b
  rw [if_pos e2]
  exact h4
theorem exm_other {K : PySem.W.Frag} {C D : Addr} (h0 : PySem.W.subIn K (.ref D) (.type "BaseException") = some true) (h1 : PySem.W.isClsIn K D = true) (h2 : PySem.W.typeIn K (.ref D) = some (.type "type")) (h4 : PySem.W.subIn K (.ref C) (.ref D) = some true) : PySem.W.exmOne K (.ref C) (.ref D) = some true := by
  have e1 : (PySem.W.subIn K (.ref D) (.type "BaseException") == some true) = true := by rw [h0] <;> rfl
  have e2 : ((PySem.W.clsIn K D).isSome && PySem.W.typeIn K (.ref D) == some (.type "type")) = true := by
    have h2' : (PySem.W.clsIn K D).isSome = true := h1
    rw [h2', h2] <;> rfl
  show (if (PySem.W.subIn K (.ref D) (.type "BaseException") == some true) = true then (if ((PySem.W.clsIn K D).isSome && PySem.W.typeIn K (.ref D) == some (.type "type")) = true then PySem.W.subIn K (.ref C) (.ref D) else none) else none) = some true
  rw [if_pos e1, if_pos e2]
  exact h4
abbrev clOf (cS cP : Addr) : Cid → Addr | .InvalidSheet => cS | .InvalidPlace => cP
theorem binds_all (i : Fid) (kV doc pm : Value) (an : Option Addr) (cdv ct : Value) : ∀ (us : List Value), us.length = (ps i).length → bindArgs (PySem.W.fnOf (nm i) (nm i) (defArgs (stm i)) (defBody (stm i)) (defScope (stm i)) .none kV doc pm an cdv ct) ⟨us, []⟩ = pure ((ps i).zip us) := by
  cases i with
    | is_integer => exact fun us hl => match us, hl with | [_], _ => rfl
    | is_string => exact fun us hl => match us, hl with | [_], _ => rfl
    | is_tuple => exact fun us hl => match us, hl with | [_], _ => rfl
    | is_within => exact fun us hl => match us, hl with | [_, _, _], _ => rfl
    | is_tuple_of => exact fun us hl => match us, hl with | [_, _], _ => rfl
    | is_sign => exact fun us hl => match us, hl with | [_], _ => rfl
    | is_text => exact fun us hl => match us, hl with | [_], _ => rfl
    | is_atom => exact fun us hl => match us, hl with | [_], _ => rfl
    | is_bits => exact fun us hl => match us, hl with | [_], _ => rfl
    | is_bits_of => exact fun us hl => match us, hl with | [_, _, _], _ => rfl
    | is_name => exact fun us hl => match us, hl with | [_], _ => rfl
    | is_path => exact fun us hl => match us, hl with | [_], _ => rfl
    | is_ascending => exact fun us hl => match us, hl with | [_], _ => rfl
    | is_bits_term => exact fun us hl => match us, hl with | [_, _], _ => rfl
    | is_table_row => exact fun us hl => match us, hl with | [_], _ => rfl
    | is_table_term => exact fun us hl => match us, hl with | [_, _], _ => rfl
    | is_width_term => exact fun us hl => match us, hl with | [_, _], _ => rfl
    | is_row_term => exact fun us hl => match us, hl with | [_, _], _ => rfl
    | is_way => exact fun us hl => match us, hl with | [_, _], _ => rfl
    | is_either_term => exact fun us hl => match us, hl with | [_, _], _ => rfl
    | is_times_term => exact fun us hl => match us, hl with | [_, _], _ => rfl
    | is_two_part_term => exact fun us hl => match us, hl with | [_, _], _ => rfl
    | is_until_term => exact fun us hl => match us, hl with | [_, _], _ => rfl
    | is_machine_row => exact fun us hl => match us, hl with | [_, _], _ => rfl
    | is_machine => exact fun us hl => match us, hl with | [_], _ => rfl
    | is_checked_term => exact fun us hl => match us, hl with | [_, _], _ => rfl
    | is_ref_term => exact fun us hl => match us, hl with | [_, _], _ => rfl
    | is_term_within => exact fun us hl => match us, hl with | [_, _], _ => rfl
    | is_any_term => exact fun us hl => match us, hl with | [_], _ => rfl
    | is_entry => exact fun us hl => match us, hl with | [_], _ => rfl
    | is_any_sheet => exact fun us hl => match us, hl with | [_], _ => rfl
    | parts_of => exact fun us hl => match us, hl with | [_], _ => rfl
    | refs_of => exact fun us hl => match us, hl with | [_], _ => rfl
    | term_at => exact fun us hl => match us, hl with | [_, _], _ => rfl
    | paths_of => exact fun us hl => match us, hl with | [_], _ => rfl
    | term_of_name => exact fun us hl => match us, hl with | [_, _], _ => rfl
    | is_place_of => exact fun us hl => match us, hl with | [_, _], _ => rfl
    | need_sheet => exact fun us hl => match us, hl with | [_], _ => rfl
    | need_place => exact fun us hl => match us, hl with | [_, _], _ => rfl
    | is_term => exact fun us hl => match us, hl with | [_], _ => rfl
    | is_sheet => exact fun us hl => match us, hl with | [_], _ => rfl
    | places => exact fun us hl => match us, hl with | [_], _ => rfl
    | part => exact fun us hl => match us, hl with | [_, _], _ => rfl
    | rooted => exact fun us hl => match us, hl with | [_, _], _ => rfl
    | trimmed => exact fun us hl => match us, hl with | [_], _ => rfl
    | lifted => exact fun us hl => match us, hl with | [_, _, _], _ => rfl
    | inlined => exact fun us hl => match us, hl with | [_, _], _ => rfl
    | changed => exact fun us hl => match us, hl with | [_, _, _], _ => rfl
    | grafted => exact fun us hl => match us, hl with | [_, _, _], _ => rfl
    | renamed => exact fun us hl => match us, hl with | [_, _], _ => rfl
    | unrolled => exact fun us hl => match us, hl with | [_, _], _ => rfl
    | law_bag => exact fun us hl => match us, hl with | [_, _], _ => rfl
    | law_take => exact fun us hl => match us, hl with | [_, _], _ => rfl
    | law_bits => exact fun us hl => match us, hl with | [_, _], _ => rfl
    | law_atom => exact fun us hl => match us, hl with | [_, _], _ => rfl
    | law_label => exact fun us hl => match us, hl with | [_, _], _ => rfl
    | law_machine => exact fun us hl => match us, hl with | [_], _ => rfl
    | law_names => exact fun us hl => match us, hl with | [_, _], _ => rfl
    | law_known => exact fun us hl => match us, hl with | [_], _ => rfl
    | law_same => exact fun us hl => match us, hl with | [_, _], _ => rfl
    | law_parts => exact fun us hl => match us, hl with | [_], _ => rfl
    | law_paths => exact fun us hl => match us, hl with | [_, _], _ => rfl
    | law_at => exact fun us hl => match us, hl with | [_, _], _ => rfl
    | law_put => exact fun us hl => match us, hl with | [_, _, _], _ => rfl
    | law_places => exact fun us hl => match us, hl with | [_], _ => rfl
    | law_laid => exact fun us hl => match us, hl with | [_, _, _], _ => rfl
    | law_loose => exact fun us hl => match us, hl with | [_, _, _], _ => rfl
    | law_loose_sheet => exact fun us hl => match us, hl with | [_], _ => rfl
    | law_deep => exact fun us hl => match us, hl with | [_, _], _ => rfl
    | law_right => exact fun us hl => match us, hl with | [_], _ => rfl
    | law_wrong => exact fun us hl => match us, hl with | [_], _ => rfl
    | law_around => exact fun us hl => match us, hl with | [_, _], _ => rfl
    | law_bent => exact fun us hl => match us, hl with | [_, _, _], _ => rfl
    | law_asked => exact fun us hl => match us, hl with | [_, _, _, _], _ => rfl
    | law_spots => exact fun us hl => match us, hl with | [_, _, _], _ => rfl
    | law => exact fun us hl => match us, hl with | [_], _ => rfl
theorem all_mk {P : Program} {w : World} {K : PySem.W.Frag} {h : Heap} {mg : Str → Option Value} {fa : Addr} (X : K.In h) (G : h.Ns mainGlobals mg) (hfa : mg "law" = some (.ref fa))
    {cS cP cW dF : Addr} {nF : Nat} {q0 q1 q2 q3 q4 q5 q6 q7 q8 q9 q10 : Int} {t0 t1 t2 t3 t4 t5 t6 t7 t8 t9 t10 : Tok} {v0 v1 v2 v3 v4 v5 v6 v7 v8 v9 v10 : Value} {u_DIGITS u_LETTERS u_PERCENT u_ATOM_BOUND u_TEXT_SIGNS u_NAME_SIGNS u_MOST_BITS u_MOST_WIDTH u_MOST_TIMES u_MOST_MARK u_MOST_ROWS u_MOST_CHECK u_MOST_DEPTH u_MOST_ENTRIES : Tok}
    (dD : ∀ i : Fid, DefAt K (nm i) (stm i))
    (gS : PySem.W.nsIn K mainGlobals "InvalidSheet" = some (some (.ref cS))) (gP : PySem.W.nsIn K mainGlobals "InvalidPlace" = some (some (.ref cP))) (gW : PySem.W.nsIn K mainGlobals "WireError" = some (some (.ref cW)))
    (eS : ExcAt K cS) (eP : ExcAt K cP) (iS : PySem.W.isClsIn K cS = true) (iP : PySem.W.isClsIn K cP = true) (nSP : cS ≠ cP) (sSP : PySem.W.subIn K (.ref cS) (.ref cP) = some false) (sPS : PySem.W.subIn K (.ref cP) (.ref cS) = some false)
    (bW : PySem.W.subIn K (.ref cW) (.type "BaseException") = some true) (iW : PySem.W.isClsIn K cW = true) (tW : PySem.W.typeIn K (.ref cW) = some (.type "type")) (sSW : PySem.W.subIn K (.ref cS) (.ref cW) = some true) (sPW : PySem.W.subIn K (.ref cP) (.ref cW) = some true)
    (z_abs : PySem.W.nsIn K mainGlobals "abs" = some none) (z_all : PySem.W.nsIn K mainGlobals "all" = some none) (z_bool : PySem.W.nsIn K mainGlobals "bool" = some none) (z_int : PySem.W.nsIn K mainGlobals "int" = some none) (z_isinstance : PySem.W.nsIn K mainGlobals "isinstance" = some none) (z_len : PySem.W.nsIn K mainGlobals "len" = some none) (z_list : PySem.W.nsIn K mainGlobals "list" = some none) (z_ord : PySem.W.nsIn K mainGlobals "ord" = some none) (z_range : PySem.W.nsIn K mainGlobals "range" = some none) (z_str : PySem.W.nsIn K mainGlobals "str" = some none) (z_tuple : PySem.W.nsIn K mainGlobals "tuple" = some none)
    (k_DIGITS : PySem.W.nsIn K mainGlobals "DIGITS" = some (some (.str "0123456789" u_DIGITS))) (k_LETTERS : PySem.W.nsIn K mainGlobals "LETTERS" = some (some (.str "abcdefghijklmnopqrstuvwxyz" u_LETTERS))) (k_PERCENT : PySem.W.nsIn K mainGlobals "PERCENT" = some (some (.int 37 u_PERCENT))) (k_ATOM_BOUND : PySem.W.nsIn K mainGlobals "ATOM_BOUND" = some (some (.int 10000000000000000000000000000000000000000 u_ATOM_BOUND))) (k_TEXT_SIGNS : PySem.W.nsIn K mainGlobals "TEXT_SIGNS" = some (some (.int 12 u_TEXT_SIGNS))) (k_NAME_SIGNS : PySem.W.nsIn K mainGlobals "NAME_SIGNS" = some (some (.int 12 u_NAME_SIGNS))) (k_MOST_BITS : PySem.W.nsIn K mainGlobals "MOST_BITS" = some (some (.int 400 u_MOST_BITS))) (k_MOST_WIDTH : PySem.W.nsIn K mainGlobals "MOST_WIDTH" = some (some (.int 8 u_MOST_WIDTH))) (k_MOST_TIMES : PySem.W.nsIn K mainGlobals "MOST_TIMES" = some (some (.int 8 u_MOST_TIMES))) (k_MOST_MARK : PySem.W.nsIn K mainGlobals "MOST_MARK" = some (some (.int 6 u_MOST_MARK))) (k_MOST_ROWS : PySem.W.nsIn K mainGlobals "MOST_ROWS" = some (some (.int 8 u_MOST_ROWS))) (k_MOST_CHECK : PySem.W.nsIn K mainGlobals "MOST_CHECK" = some (some (.int 4 u_MOST_CHECK))) (k_MOST_DEPTH : PySem.W.nsIn K mainGlobals "MOST_DEPTH" = some (some (.int 12 u_MOST_DEPTH))) (k_MOST_ENTRIES : PySem.W.nsIn K mainGlobals "MOST_ENTRIES" = some (some (.int 100 u_MOST_ENTRIES)))
    (gF : PySem.W.nsIn K mainGlobals "FORMS" = some (some (.ref dF))) (lF : K.lookup dF = some ⟨.type "dict", none, .dict #[⟨q0, .str "bits" t0, v0⟩, ⟨q1, .str "table" t1, v1⟩, ⟨q2, .str "width" t2, v2⟩, ⟨q3, .str "row" t3, v3⟩, ⟨q4, .str "either" t4, v4⟩, ⟨q5, .str "times" t5, v5⟩, ⟨q6, .str "counted" t6, v6⟩, ⟨q7, .str "until" t7, v7⟩, ⟨q8, .str "sized" t8, v8⟩, ⟨q9, .str "checked" t9, v9⟩, ⟨q10, .str "ref" t10, v10⟩] nF, #[]⟩) (hF : PySem.W.KeysLit w.params [⟨q0, .str "bits" t0, v0⟩, ⟨q1, .str "table" t1, v1⟩, ⟨q2, .str "width" t2, v2⟩, ⟨q3, .str "row" t3, v3⟩, ⟨q4, .str "either" t4, v4⟩, ⟨q5, .str "times" t5, v5⟩, ⟨q6, .str "counted" t6, v6⟩, ⟨q7, .str "until" t7, v7⟩, ⟨q8, .str "sized" t8, v8⟩, ⟨q9, .str "checked" t9, v9⟩, ⟨q10, .str "ref" t10, v10⟩]) (oF : (dF == sysModules) = false)
    (v_0 : PySem.W.nsIn K mainGlobals "is_bits_term" = some (some v0)) (v_1 : PySem.W.nsIn K mainGlobals "is_table_term" = some (some v1)) (v_2 : PySem.W.nsIn K mainGlobals "is_width_term" = some (some v2)) (v_3 : PySem.W.nsIn K mainGlobals "is_row_term" = some (some v3)) (v_4 : PySem.W.nsIn K mainGlobals "is_either_term" = some (some v4)) (v_5 : PySem.W.nsIn K mainGlobals "is_times_term" = some (some v5)) (v_6 : PySem.W.nsIn K mainGlobals "is_two_part_term" = some (some v6)) (v_7 : PySem.W.nsIn K mainGlobals "is_until_term" = some (some v7)) (v_8 : PySem.W.nsIn K mainGlobals "is_two_part_term" = some (some v8)) (v_9 : PySem.W.nsIn K mainGlobals "is_checked_term" = some (some v9)) (v_10 : PySem.W.nsIn K mainGlobals "is_ref_term" = some (some v10))
    (N : Nat) {wd : D} (h1 : ∀ ε, w_law ε [] = some (wd, [])) (h2 : ∀ cl, t_law (c3 N cl) [none, some wd, none, none, none, none, none, none, none, none] [] = some (false, []))
    (h3 : ∀ cl : Cid → Addr, cl .InvalidSheet ≠ cl .InvalidPlace → ∀ ns : List Int, ns.length ≤ 63 → ∃ ε' m', loopD (stN 2) (l_law (c3 N cl) (nbag N)) (cells ns) [none, some wd, none, none, none, none, none, none, none, none] [] = some (.nx ε' m')) :
    ∃ fd : FuncData, (∀ (s : Shared) (v : Value), BindsTo s fd ⟨[v], []⟩ [("_law_script", v)]) ∧ ∀ base : Heap, K.In base → base.Ns mainGlobals mg → FnOk P w K mg base CX0 (N + 5) fa fd ["_law_script"] (spLaw K) := by
  obtain ⟨ad, h⟩ := Classical.axiomOfChoice dD
  obtain ⟨oc, h⟩ := Classical.axiomOfChoice h
  obtain ⟨od, h⟩ := Classical.axiomOfChoice h
  obtain ⟨kV, h⟩ := Classical.axiomOfChoice h
  obtain ⟨dc, h⟩ := Classical.axiomOfChoice h
  obtain ⟨pm, h⟩ := Classical.axiomOfChoice h
  obtain ⟨an, h⟩ := Classical.axiomOfChoice h
  obtain ⟨cd, h⟩ := Classical.axiomOfChoice h
  obtain ⟨ct, h⟩ := Classical.axiomOfChoice h
  obtain ⟨sl, h⟩ := Classical.axiomOfChoice h
  have e := hfa.symm.trans (PySem.W.mg_of X G (h .law).1)
  cases e
  have FN : ∀ i, Fun K (nm i) (nm i) (stm i) (ad i) (PySem.W.fnOf (nm i) (nm i) (defArgs (stm i)) (defBody (stm i)) (defScope (stm i)) .none (kV i) (dc i) (pm i) (an i) (cd i) (ct i)) := fun i => fun_mk (st := stm i) (h i).2.1 (h i).2.2.1 (h i).2.2.2
  have T : Txt K mg ad (fun i => PySem.W.fnOf (nm i) (nm i) (defArgs (stm i)) (defBody (stm i)) (defScope (stm i)) .none (kV i) (dc i) (pm i) (an i) (cd i) (ct i)) :=
    { mgF := fun i => PySem.W.mg_of X G (h i).1, kp := fun i => (h i).2.2.2, bd := fun i => (FN i).binds (binds_all i), fn := FN, b_abs := PySem.W.mg_none_of X G z_abs, b_all := PySem.W.mg_none_of X G z_all, b_bool := PySem.W.mg_none_of X G z_bool, b_int := PySem.W.mg_none_of X G z_int, b_isinstance := PySem.W.mg_none_of X G z_isinstance, b_len := PySem.W.mg_none_of X G z_len, b_list := PySem.W.mg_none_of X G z_list, b_ord := PySem.W.mg_none_of X G z_ord, b_range := PySem.W.mg_none_of X G z_range, b_str := PySem.W.mg_none_of X G z_str, b_tuple := PySem.W.mg_none_of X G z_tuple, c_DIGITS := ⟨_, PySem.W.mg_of X G k_DIGITS⟩, c_LETTERS := ⟨_, PySem.W.mg_of X G k_LETTERS⟩, c_PERCENT := ⟨_, PySem.W.mg_of X G k_PERCENT⟩, c_ATOM_BOUND := ⟨_, PySem.W.mg_of X G k_ATOM_BOUND⟩, c_TEXT_SIGNS := ⟨_, PySem.W.mg_of X G k_TEXT_SIGNS⟩, c_NAME_SIGNS := ⟨_, PySem.W.mg_of X G k_NAME_SIGNS⟩, c_MOST_BITS := ⟨_, PySem.W.mg_of X G k_MOST_BITS⟩, c_MOST_WIDTH := ⟨_, PySem.W.mg_of X G k_MOST_WIDTH⟩, c_MOST_TIMES := ⟨_, PySem.W.mg_of X G k_MOST_TIMES⟩, c_MOST_MARK := ⟨_, PySem.W.mg_of X G k_MOST_MARK⟩, c_MOST_ROWS := ⟨_, PySem.W.mg_of X G k_MOST_ROWS⟩, c_MOST_CHECK := ⟨_, PySem.W.mg_of X G k_MOST_CHECK⟩, c_MOST_DEPTH := ⟨_, PySem.W.mg_of X G k_MOST_DEPTH⟩, c_MOST_ENTRIES := ⟨_, PySem.W.mg_of X G k_MOST_ENTRIES⟩ }
  have EX : ∀ i, ExcAt K (clOf cS cP i) := fun i => by cases i; exact eS; exact eP
  have CT : CTxt K mg (clOf cS cP) cW :=
    { ex1 := fun i => ⟨by cases i; exact PySem.W.mg_of X G gS; exact PySem.W.mg_of X G gP, (EX i).x, (EX i).k, (EX i).b, (EX i).t⟩, exc := fun i => (EX i).e,
      kit := fun i j => by
        cases i <;> cases j
        · exact kit_self _ (beq_self_eq_true _)
        · exact kit_other nSP iP eP.t sSP
        · exact kit_other (fun z => nSP z.symm) iS eS.t sPS
        · exact kit_self _ (beq_self_eq_true _),
      gw := PySem.W.mg_of X G gW, exm := fun i => by
        cases i
        · exact exm_other bW iW tW sSW
        · exact exm_other bW iW tW sPW }
  have KB : KBs (fun i => PySem.W.fnOf (nm i) (nm i) (defArgs (stm i)) (defBody (stm i)) (defScope (stm i)) .none (kV i) (dc i) (pm i) (an i) (cd i) (ct i)) :=
    ⟨KB0.mk' (FN .places) (fun _ _ _ _ _ _ ws hl => match ws, hl with | [_], _ => rfl), KB0.mk' (FN .part) (fun _ _ _ _ _ _ ws hl => match ws, hl with | [_, _], _ => rfl), KB0.mk' (FN .is_sheet) (fun _ _ _ _ _ _ ws hl => match ws, hl with | [_], _ => rfl), KB0.mk' (FN .is_term) (fun _ _ _ _ _ _ ws hl => match ws, hl with | [_], _ => rfl)⟩
  have FM : Forms K w mg ad := ⟨dF, _, nF, PySem.W.mg_of X G gF, ⟨lF, hF, oF⟩, fun z => by
    rw [formNs lF z]
    congr 1
    have w0 : v0 = .ref (ad .is_bits_term) := Option.some.inj (Option.some.inj (v_0.symm.trans (h .is_bits_term).1))
    have w1 : v1 = .ref (ad .is_table_term) := Option.some.inj (Option.some.inj (v_1.symm.trans (h .is_table_term).1))
    have w2 : v2 = .ref (ad .is_width_term) := Option.some.inj (Option.some.inj (v_2.symm.trans (h .is_width_term).1))
    have w3 : v3 = .ref (ad .is_row_term) := Option.some.inj (Option.some.inj (v_3.symm.trans (h .is_row_term).1))
    have w4 : v4 = .ref (ad .is_either_term) := Option.some.inj (Option.some.inj (v_4.symm.trans (h .is_either_term).1))
    have w5 : v5 = .ref (ad .is_times_term) := Option.some.inj (Option.some.inj (v_5.symm.trans (h .is_times_term).1))
    have w6 : v6 = .ref (ad .is_two_part_term) := Option.some.inj (Option.some.inj (v_6.symm.trans (h .is_two_part_term).1))
    have w7 : v7 = .ref (ad .is_until_term) := Option.some.inj (Option.some.inj (v_7.symm.trans (h .is_until_term).1))
    have w8 : v8 = .ref (ad .is_two_part_term) := Option.some.inj (Option.some.inj (v_8.symm.trans (h .is_two_part_term).1))
    have w9 : v9 = .ref (ad .is_checked_term) := Option.some.inj (Option.some.inj (v_9.symm.trans (h .is_checked_term).1))
    have w10 : v10 = .ref (ad .is_ref_term) := Option.some.inj (Option.some.inj (v_10.symm.trans (h .is_ref_term).1))
    subst w0 w1 w2 w3 w4 w5 w6 w7 w8 w9 w10
    unfold formId
    repeat (first | rfl | (split; rfl))⟩
  exact ⟨_, fun s v => .of_eq (binds_all .law _ _ _ _ _ _ [v] rfl), fun base _ _ => assemble N T FM CT KB h1 (h2 _) (h3 _ nSP)⟩

theorem walk {l : PySem.W.OpenLaw} {q : Program} {loose : List Str} {XP : (Str → Option Value) → Heap → Prop} {YP : World → Heap → Prop} {d : DefRec} {K : Params → PySem.W.Frag} (hn : l.most = some 63) (hdf : d.params.defaults = [])
    (hY : ∀ (w : World) (h : Heap), YP w h → (K w.params).In h)
    (F : ∀ (w : World) (mg : Str → Option Value) (fa : Addr) (h : Heap), (K w.params).In h → h.Ns mainGlobals mg → mg d.name = some (.ref fa) →
      ∃ fd : FuncData, (∀ (s : Shared) (u : Value), BindsTo s fd ⟨[u], []⟩ [("_law_script", u)]) ∧ ∀ base : Heap, (K w.params).In base → base.Ns mainGlobals mg → FnOk l.prog w (K w.params) mg base CX0 65 fa fd ["_law_script"] (spLaw (K w.params))) :
    PySem.W.WalkO q loose XP YP l.row.toRowW d [] (fun f vs => PySem.call f vs) :=
  L2.walk_of (n := 63) (k := 65) (x := "_law_script") (CX := fun _ => CX0) (sp := fun w => spLaw (K w.params)) hn (by decide) hdf ⟨rfl, by decide, by decide⟩ hY F (fun _ _ a ns hl _ hS => ⟨a, ns, rfl, hS, hl, fun _ => rfl⟩) fun _ _ _ _ _ z => z
end KK
end
section
set_option Elab.async false
set_option linter.all false
set_option maxRecDepth 100000
namespace DL
open PySem PySem.Spec PyProof.Rows L2
/-! ### what a function of data comes to, step by step -/
section
variable {f g fa fb fc : F} {t u : FT} {s s2 : FS} {ε ε1 : Ev} {m m1 m2 m3 : M} {d a b : D} {x y : Bool} {r : Option Out} {q : Option (D × M)} {i : Nat}
theorem x_ret (h : f ε m = some (d, m1)) : sRet f ε m = some (.rt d m1) := by unfold sRet; rw [h]; rfl
theorem x_seq (h : s ε m = some (.nx ε1 m1)) (h2 : s2 ε1 m1 = r) : sSeq s s2 ε m = r := by unfold sSeq; rw [h]; exact h2
theorem x_seqR (h : s ε m = some (.rt d m1)) : sSeq s s2 ε m = some (.rt d m1) := by unfold sSeq; rw [h]; rfl
theorem x_set (h : f ε m = some (d, m1)) : sSet i f ε m = some (.nx (ε.set i (some d)) m1) := by unfold sSet; rw [h]; rfl
theorem x_exp (h : f ε m = some (d, m1)) : sExp f ε m = some (.nx ε m1) := by unfold sExp; rw [h]; rfl
theorem x_ifT (h : t ε m = some (true, m1)) (h2 : s ε m1 = r) : sIf t s s2 ε m = r := by unfold sIf; rw [h]; exact h2
theorem x_ifF (h : t ε m = some (false, m1)) (h2 : s2 ε m1 = r) : sIf t s s2 ε m = r := by unfold sIf; rw [h]; exact h2
theorem x_nx : sNx ε m = some (.nx ε m) := rfl
/-- if t: return False; .. -/
theorem x_guard (h : t ε m = some (x, m)) (h2 : x = false → s ε m = some (.rt (.bl y) m)) : sSeq (sIf t (sRet (fC (.bl false))) sNx) s ε m = some (.rt (.bl (!x && y)) m) := by
  cases x with
  | true => exact x_seqR (x_ifT h rfl)
  | false => exact x_seq (x_ifF h rfl) (h2 rfl)
theorem x_guardF (h : t ε m = some (false, m1)) (h2 : s ε m1 = r) : sSeq (sIf t (sRet (fC (.bl false))) sNx) s ε m = r := x_seq (x_ifF h rfl) h2
theorem x_bin {G : G2} (h1 : fa ε m = some (a, m1)) (h2 : fb ε m1 = some (b, m2)) (h3 : G a b m2 = some d) : fBin G fa fb ε m = some (d, m2) := by unfold fBin; rw [h1]; simp only [Option.bind_some]; rw [h2]; simp only [Option.bind_some]; rw [h3]; rfl
theorem x_un {G : G1} (h1 : fa ε m = some (a, m1)) (h3 : G a m1 = some d) : fUn G fa ε m = some (d, m1) := by unfold fUn; rw [h1]; simp only [Option.bind_some]; rw [h3]; rfl
theorem x_app1 {G : GN} (h1 : fa ε m = some (a, m1)) (h3 : G [a] m1 = some d) : fApp G (f1 fa) ε m = some (d, m1) := by unfold fApp f1 faCons faNil; rw [h1]; simp only [Option.bind_some, Option.map_some]; rw [h3]; rfl
theorem x_call1 {c : FD} (h1 : fa ε m = some (a, m1)) (h3 : c [a] m1 = q) : fCall c (faCons fa faNil) ε m = q := by unfold fCall faCons faNil; rw [h1]; exact h3
theorem x_call2 {c : FD} (h1 : fa ε m = some (a, m1)) (h2 : fb ε m1 = some (b, m2)) (h3 : c [a, b] m2 = q) : fCall c (faCons fa (faCons fb faNil)) ε m = q := by unfold fCall faCons faNil; rw [h1]; simp only [Option.bind_some]; rw [h2]; exact h3
theorem x_call3 {c : FD} {e : D} (h1 : fa ε m = some (a, m1)) (h2 : fb ε m1 = some (b, m2)) (h4 : fc ε m2 = some (e, m3)) (h3 : c [a, b, e] m3 = q) : fCall c (faCons fa (faCons fb (faCons fc faNil))) ε m = q := by unfold fCall faCons faNil; rw [h1]; simp only [Option.bind_some]; rw [h2]; simp only [Option.bind_some]; rw [h4]; exact h3
theorem x_call4 {c : FD} {e e2 : D} {m4 : M} {fe : F} (h1 : fa ε m = some (a, m1)) (h2 : fb ε m1 = some (b, m2)) (h4 : fc ε m2 = some (e, m3)) (h5 : fe ε m3 = some (e2, m4)) (h3 : c [a, b, e, e2] m4 = q) : fCall c (faCons fa (faCons fb (faCons fc (faCons fe faNil)))) ε m = q := by unfold fCall faCons faNil; rw [h1]; simp only [Option.bind_some]; rw [h2]; simp only [Option.bind_some]; rw [h4]; simp only [Option.bind_some]; rw [h5]; exact h3
theorem x_t (h : f ε m = some (.bl x, m1)) : fT f ε m = some (x, m1) := by unfold fT; rw [h]; rfl
theorem x_tru (h : f ε m = some (.bl x, m1)) : fTru f ε m = some (x, m1) := by unfold fTru; rw [h]; rfl
theorem x_notT (h : t ε m = some (x, m1)) : fNotT t ε m = some (!x, m1) := by unfold fNotT; rw [h]; rfl
theorem x_orT (h : t ε m = some (x, m)) (h2 : x = false → u ε m = some (y, m)) : fOrT t u ε m = some (x || y, m) := by
  unfold fOrT; rw [h]
  cases x with
  | true => rfl
  | false => exact h2 rfl
theorem x_orTF (h : t ε m = some (false, m1)) (h2 : u ε m1 = some (y, m2)) : fOrT t u ε m = some (y, m2) := by unfold fOrT; rw [h]; exact h2
theorem x_orTT (h : t ε m = some (true, m1)) : fOrT t u ε m = some (true, m1) := by unfold fOrT; rw [h]; rfl
theorem x_andT (h : t ε m = some (x, m)) (h2 : x = true → u ε m = some (y, m)) : fAndT t u ε m = some (x && y, m) := by
  unfold fAndT; rw [h]
  cases x with
  | false => rfl
  | true => exact h2 rfl
theorem x_andTT (h : t ε m = some (true, m1)) (h2 : u ε m1 = some (y, m2)) : fAndT t u ε m = some (y, m2) := by unfold fAndT; rw [h]; exact h2
theorem x_andTF (h : t ε m = some (false, m1)) : fAndT t u ε m = some (false, m1) := by unfold fAndT; rw [h]; rfl
theorem x_and (h : f ε m = some (.bl x, m)) (h2 : x = true → g ε m = some (.bl y, m)) : fAnd f g ε m = some (.bl (x && y), m) := by
  unfold fAnd; rw [h]
  cases x with
  | false => rfl
  | true => exact h2 rfl
theorem x_andF (h : f ε m = some (.bl false, m1)) : fAnd f g ε m = some (.bl false, m1) := by unfold fAnd; rw [h]; rfl
theorem x_andG (h : f ε m = some (.bl true, m1)) (h2 : g ε m1 = q) : fAnd f g ε m = q := by unfold fAnd; rw [h]; exact h2
theorem x_or (h : f ε m = some (.bl x, m)) (h2 : x = false → g ε m = some (.bl y, m)) : fOr f g ε m = some (.bl (x || y), m) := by
  unfold fOr; rw [h]
  cases x with
  | true => rfl
  | false => exact h2 rfl
theorem x_items {l : List D} (h : f ε m = some (d, m1)) (h2 : itemsD d = some l) : fItems f ε m = some (l, m1) := by unfold fItems; rw [h]; simp only [Option.bind_some]; rw [h2]; rfl
theorem pw62 : (2 : Int) ^ 62 = 4611686018427387904 := by decide
theorem rng_ok (k : Nat) (hk : (k : Int) ≤ 100000) : -(2 ^ 62) ≤ (k : Int) ∧ (k : Int) < 2 ^ 62 := by rw [pw62]; exact ⟨by omega, by omega⟩
def rngF (p : D × M) : Option (List D × M) := match p.1 with
  | .int j => if -(2 ^ 62) ≤ j ∧ j < 2 ^ 62 then some (rngD 0 j.toNat, p.2) else none
  | _ => none
theorem fr (f : F) (ε : Ev) (m : M) : fRng1 f ε m = (f ε m).bind rngF := rfl
theorem rngF_ok (j : Int) (m : M) (h : -(2 ^ 62) ≤ j ∧ j < 2 ^ 62) : rngF (.int j, m) = some (rngD 0 j.toNat, m) := by
  unfold rngF
  simp only
  rw [if_pos h]
theorem x_rng1 {k : Nat} (h : f ε m = some (.int k, m1)) (hk : (k : Int) ≤ 100000) : fRng1 f ε m = some (rngD 0 k, m1) := by
  rw [fr, h, Option.bind_some, rngF_ok _ _ (rng_ok k hk), Int.toNat_natCast]
end
end DL
end
section
set_option Elab.async false
set_option linter.all false
set_option maxRecDepth 100000
namespace KK
open PySem PySem.Spec PyProof.Rows L2 DL
theorem fnD_rt2 {np n : Nat} {body : FS} {ds : List D} {ε : Ev} {m m' : M} {d : D} (h : ds.length = np) (he : ds.map some ++ List.replicate (n - np) none = ε) (e : body ε m = some (.rt d m')) (hl : m'.length = m.length) : fnD np n body ds m = some (d, m') := by
  subst he
  unfold fnD
  rw [if_pos h, e]
  show finD m.length d m' = _
  unfold finD
  rw [if_pos hl]

theorem Fr_is_integer {n : Nat} {a0 : D} {m m' : M} {d : D} (e : b_is_integer (F n) [some a0] m = some (.rt d m')) (hl : m'.length = m.length := by rfl) : F (n + 1) .is_integer [a0] m = some (d, m') := Eq.trans (congrFun (congrFun (show F (n + 1) .is_integer = fnD 1 1 (b_is_integer (F n)) from rfl) _) _) (fnD_rt2 (np := 1) (n := 1) (body := b_is_integer (F n)) (ds := [a0]) (ε := [some a0]) rfl rfl e hl)
theorem Fr_is_string {n : Nat} {a0 : D} {m m' : M} {d : D} (e : b_is_string (F n) [some a0] m = some (.rt d m')) (hl : m'.length = m.length := by rfl) : F (n + 1) .is_string [a0] m = some (d, m') := Eq.trans (congrFun (congrFun (show F (n + 1) .is_string = fnD 1 1 (b_is_string (F n)) from rfl) _) _) (fnD_rt2 (np := 1) (n := 1) (body := b_is_string (F n)) (ds := [a0]) (ε := [some a0]) rfl rfl e hl)
theorem Fr_is_tuple {n : Nat} {a0 : D} {m m' : M} {d : D} (e : b_is_tuple (F n) [some a0] m = some (.rt d m')) (hl : m'.length = m.length := by rfl) : F (n + 1) .is_tuple [a0] m = some (d, m') := Eq.trans (congrFun (congrFun (show F (n + 1) .is_tuple = fnD 1 1 (b_is_tuple (F n)) from rfl) _) _) (fnD_rt2 (np := 1) (n := 1) (body := b_is_tuple (F n)) (ds := [a0]) (ε := [some a0]) rfl rfl e hl)
theorem Fr_is_within {n : Nat} {a0 a1 a2 : D} {m m' : M} {d : D} (e : b_is_within (F n) [some a0, some a1, some a2] m = some (.rt d m')) (hl : m'.length = m.length := by rfl) : F (n + 1) .is_within [a0, a1, a2] m = some (d, m') := Eq.trans (congrFun (congrFun (show F (n + 1) .is_within = fnD 3 3 (b_is_within (F n)) from rfl) _) _) (fnD_rt2 (np := 3) (n := 3) (body := b_is_within (F n)) (ds := [a0, a1, a2]) (ε := [some a0, some a1, some a2]) rfl rfl e hl)
theorem Fr_is_tuple_of {n : Nat} {a0 a1 : D} {m m' : M} {d : D} (e : b_is_tuple_of (F n) [some a0, some a1] m = some (.rt d m')) (hl : m'.length = m.length := by rfl) : F (n + 1) .is_tuple_of [a0, a1] m = some (d, m') := Eq.trans (congrFun (congrFun (show F (n + 1) .is_tuple_of = fnD 2 2 (b_is_tuple_of (F n)) from rfl) _) _) (fnD_rt2 (np := 2) (n := 2) (body := b_is_tuple_of (F n)) (ds := [a0, a1]) (ε := [some a0, some a1]) rfl rfl e hl)
theorem Fr_is_sign {n : Nat} {a0 : D} {m m' : M} {d : D} (e : b_is_sign (F n) [some a0] m = some (.rt d m')) (hl : m'.length = m.length := by rfl) : F (n + 1) .is_sign [a0] m = some (d, m') := Eq.trans (congrFun (congrFun (show F (n + 1) .is_sign = fnD 1 1 (b_is_sign (F n)) from rfl) _) _) (fnD_rt2 (np := 1) (n := 1) (body := b_is_sign (F n)) (ds := [a0]) (ε := [some a0]) rfl rfl e hl)
theorem Fr_is_text {n : Nat} {a0 : D} {m m' : M} {d : D} (e : b_is_text (F n) [some a0, none] m = some (.rt d m')) (hl : m'.length = m.length := by rfl) : F (n + 1) .is_text [a0] m = some (d, m') := Eq.trans (congrFun (congrFun (show F (n + 1) .is_text = fnD 1 2 (b_is_text (F n)) from rfl) _) _) (fnD_rt2 (np := 1) (n := 2) (body := b_is_text (F n)) (ds := [a0]) (ε := [some a0, none]) rfl rfl e hl)
theorem Fr_is_atom {n : Nat} {a0 : D} {m m' : M} {d : D} (e : b_is_atom (F n) [some a0] m = some (.rt d m')) (hl : m'.length = m.length := by rfl) : F (n + 1) .is_atom [a0] m = some (d, m') := Eq.trans (congrFun (congrFun (show F (n + 1) .is_atom = fnD 1 1 (b_is_atom (F n)) from rfl) _) _) (fnD_rt2 (np := 1) (n := 1) (body := b_is_atom (F n)) (ds := [a0]) (ε := [some a0]) rfl rfl e hl)
theorem Fr_is_bits {n : Nat} {a0 : D} {m m' : M} {d : D} (e : b_is_bits (F n) [some a0] m = some (.rt d m')) (hl : m'.length = m.length := by rfl) : F (n + 1) .is_bits [a0] m = some (d, m') := Eq.trans (congrFun (congrFun (show F (n + 1) .is_bits = fnD 1 1 (b_is_bits (F n)) from rfl) _) _) (fnD_rt2 (np := 1) (n := 1) (body := b_is_bits (F n)) (ds := [a0]) (ε := [some a0]) rfl rfl e hl)
theorem Fr_is_bits_of {n : Nat} {a0 a1 a2 : D} {m m' : M} {d : D} (e : b_is_bits_of (F n) [some a0, some a1, some a2] m = some (.rt d m')) (hl : m'.length = m.length := by rfl) : F (n + 1) .is_bits_of [a0, a1, a2] m = some (d, m') := Eq.trans (congrFun (congrFun (show F (n + 1) .is_bits_of = fnD 3 3 (b_is_bits_of (F n)) from rfl) _) _) (fnD_rt2 (np := 3) (n := 3) (body := b_is_bits_of (F n)) (ds := [a0, a1, a2]) (ε := [some a0, some a1, some a2]) rfl rfl e hl)
theorem Fr_is_name {n : Nat} {a0 : D} {m m' : M} {d : D} (e : b_is_name (F n) [some a0, none] m = some (.rt d m')) (hl : m'.length = m.length := by rfl) : F (n + 1) .is_name [a0] m = some (d, m') := Eq.trans (congrFun (congrFun (show F (n + 1) .is_name = fnD 1 2 (b_is_name (F n)) from rfl) _) _) (fnD_rt2 (np := 1) (n := 2) (body := b_is_name (F n)) (ds := [a0]) (ε := [some a0, none]) rfl rfl e hl)
theorem Fr_is_path {n : Nat} {a0 : D} {m m' : M} {d : D} (e : b_is_path (F n) [some a0, none] m = some (.rt d m')) (hl : m'.length = m.length := by rfl) : F (n + 1) .is_path [a0] m = some (d, m') := Eq.trans (congrFun (congrFun (show F (n + 1) .is_path = fnD 1 2 (b_is_path (F n)) from rfl) _) _) (fnD_rt2 (np := 1) (n := 2) (body := b_is_path (F n)) (ds := [a0]) (ε := [some a0, none]) rfl rfl e hl)
theorem Fr_is_ascending {n : Nat} {a0 : D} {m m' : M} {d : D} (e : b_is_ascending (F n) [some a0, none] m = some (.rt d m')) (hl : m'.length = m.length := by rfl) : F (n + 1) .is_ascending [a0] m = some (d, m') := Eq.trans (congrFun (congrFun (show F (n + 1) .is_ascending = fnD 1 2 (b_is_ascending (F n)) from rfl) _) _) (fnD_rt2 (np := 1) (n := 2) (body := b_is_ascending (F n)) (ds := [a0]) (ε := [some a0, none]) rfl rfl e hl)
theorem Fr_is_bits_term {n : Nat} {a0 a1 : D} {m m' : M} {d : D} (e : b_is_bits_term (F n) [some a0, some a1] m = some (.rt d m')) (hl : m'.length = m.length := by rfl) : F (n + 1) .is_bits_term [a0, a1] m = some (d, m') := Eq.trans (congrFun (congrFun (show F (n + 1) .is_bits_term = fnD 2 2 (b_is_bits_term (F n)) from rfl) _) _) (fnD_rt2 (np := 2) (n := 2) (body := b_is_bits_term (F n)) (ds := [a0, a1]) (ε := [some a0, some a1]) rfl rfl e hl)
theorem Fr_is_table_row {n : Nat} {a0 : D} {m m' : M} {d : D} (e : b_is_table_row (F n) [some a0] m = some (.rt d m')) (hl : m'.length = m.length := by rfl) : F (n + 1) .is_table_row [a0] m = some (d, m') := Eq.trans (congrFun (congrFun (show F (n + 1) .is_table_row = fnD 1 1 (b_is_table_row (F n)) from rfl) _) _) (fnD_rt2 (np := 1) (n := 1) (body := b_is_table_row (F n)) (ds := [a0]) (ε := [some a0]) rfl rfl e hl)
theorem Fr_is_table_term {n : Nat} {a0 a1 : D} {m m' : M} {d : D} (e : b_is_table_term (F n) [some a0, some a1, none] m = some (.rt d m')) (hl : m'.length = m.length := by rfl) : F (n + 1) .is_table_term [a0, a1] m = some (d, m') := Eq.trans (congrFun (congrFun (show F (n + 1) .is_table_term = fnD 2 3 (b_is_table_term (F n)) from rfl) _) _) (fnD_rt2 (np := 2) (n := 3) (body := b_is_table_term (F n)) (ds := [a0, a1]) (ε := [some a0, some a1, none]) rfl rfl e hl)
theorem Fr_is_width_term {n : Nat} {a0 a1 : D} {m m' : M} {d : D} (e : b_is_width_term (F n) [some a0, some a1] m = some (.rt d m')) (hl : m'.length = m.length := by rfl) : F (n + 1) .is_width_term [a0, a1] m = some (d, m') := Eq.trans (congrFun (congrFun (show F (n + 1) .is_width_term = fnD 2 2 (b_is_width_term (F n)) from rfl) _) _) (fnD_rt2 (np := 2) (n := 2) (body := b_is_width_term (F n)) (ds := [a0, a1]) (ε := [some a0, some a1]) rfl rfl e hl)
theorem Fr_is_row_term {n : Nat} {a0 a1 : D} {m m' : M} {d : D} (e : b_is_row_term (F n) [some a0, some a1, none] m = some (.rt d m')) (hl : m'.length = m.length := by rfl) : F (n + 1) .is_row_term [a0, a1] m = some (d, m') := Eq.trans (congrFun (congrFun (show F (n + 1) .is_row_term = fnD 2 3 (b_is_row_term (F n)) from rfl) _) _) (fnD_rt2 (np := 2) (n := 3) (body := b_is_row_term (F n)) (ds := [a0, a1]) (ε := [some a0, some a1, none]) rfl rfl e hl)
theorem Fr_is_way {n : Nat} {a0 a1 : D} {m m' : M} {d : D} (e : b_is_way (F n) [some a0, some a1] m = some (.rt d m')) (hl : m'.length = m.length := by rfl) : F (n + 1) .is_way [a0, a1] m = some (d, m') := Eq.trans (congrFun (congrFun (show F (n + 1) .is_way = fnD 2 2 (b_is_way (F n)) from rfl) _) _) (fnD_rt2 (np := 2) (n := 2) (body := b_is_way (F n)) (ds := [a0, a1]) (ε := [some a0, some a1]) rfl rfl e hl)
theorem Fr_is_either_term {n : Nat} {a0 a1 : D} {m m' : M} {d : D} (e : b_is_either_term (F n) [some a0, some a1, none] m = some (.rt d m')) (hl : m'.length = m.length := by rfl) : F (n + 1) .is_either_term [a0, a1] m = some (d, m') := Eq.trans (congrFun (congrFun (show F (n + 1) .is_either_term = fnD 2 3 (b_is_either_term (F n)) from rfl) _) _) (fnD_rt2 (np := 2) (n := 3) (body := b_is_either_term (F n)) (ds := [a0, a1]) (ε := [some a0, some a1, none]) rfl rfl e hl)
theorem Fr_is_times_term {n : Nat} {a0 a1 : D} {m m' : M} {d : D} (e : b_is_times_term (F n) [some a0, some a1] m = some (.rt d m')) (hl : m'.length = m.length := by rfl) : F (n + 1) .is_times_term [a0, a1] m = some (d, m') := Eq.trans (congrFun (congrFun (show F (n + 1) .is_times_term = fnD 2 2 (b_is_times_term (F n)) from rfl) _) _) (fnD_rt2 (np := 2) (n := 2) (body := b_is_times_term (F n)) (ds := [a0, a1]) (ε := [some a0, some a1]) rfl rfl e hl)
theorem Fr_is_two_part_term {n : Nat} {a0 a1 : D} {m m' : M} {d : D} (e : b_is_two_part_term (F n) [some a0, some a1] m = some (.rt d m')) (hl : m'.length = m.length := by rfl) : F (n + 1) .is_two_part_term [a0, a1] m = some (d, m') := Eq.trans (congrFun (congrFun (show F (n + 1) .is_two_part_term = fnD 2 2 (b_is_two_part_term (F n)) from rfl) _) _) (fnD_rt2 (np := 2) (n := 2) (body := b_is_two_part_term (F n)) (ds := [a0, a1]) (ε := [some a0, some a1]) rfl rfl e hl)
theorem Fr_is_until_term {n : Nat} {a0 a1 : D} {m m' : M} {d : D} (e : b_is_until_term (F n) [some a0, some a1] m = some (.rt d m')) (hl : m'.length = m.length := by rfl) : F (n + 1) .is_until_term [a0, a1] m = some (d, m') := Eq.trans (congrFun (congrFun (show F (n + 1) .is_until_term = fnD 2 2 (b_is_until_term (F n)) from rfl) _) _) (fnD_rt2 (np := 2) (n := 2) (body := b_is_until_term (F n)) (ds := [a0, a1]) (ε := [some a0, some a1]) rfl rfl e hl)
theorem Fr_is_machine_row {n : Nat} {a0 a1 : D} {m m' : M} {d : D} (e : b_is_machine_row (F n) [some a0, some a1] m = some (.rt d m')) (hl : m'.length = m.length := by rfl) : F (n + 1) .is_machine_row [a0, a1] m = some (d, m') := Eq.trans (congrFun (congrFun (show F (n + 1) .is_machine_row = fnD 2 2 (b_is_machine_row (F n)) from rfl) _) _) (fnD_rt2 (np := 2) (n := 2) (body := b_is_machine_row (F n)) (ds := [a0, a1]) (ε := [some a0, some a1]) rfl rfl e hl)
theorem Fr_is_machine {n : Nat} {a0 : D} {m m' : M} {d : D} (e : b_is_machine (F n) [some a0, none] m = some (.rt d m')) (hl : m'.length = m.length := by rfl) : F (n + 1) .is_machine [a0] m = some (d, m') := Eq.trans (congrFun (congrFun (show F (n + 1) .is_machine = fnD 1 2 (b_is_machine (F n)) from rfl) _) _) (fnD_rt2 (np := 1) (n := 2) (body := b_is_machine (F n)) (ds := [a0]) (ε := [some a0, none]) rfl rfl e hl)
theorem Fr_is_checked_term {n : Nat} {a0 a1 : D} {m m' : M} {d : D} (e : b_is_checked_term (F n) [some a0, some a1] m = some (.rt d m')) (hl : m'.length = m.length := by rfl) : F (n + 1) .is_checked_term [a0, a1] m = some (d, m') := Eq.trans (congrFun (congrFun (show F (n + 1) .is_checked_term = fnD 2 2 (b_is_checked_term (F n)) from rfl) _) _) (fnD_rt2 (np := 2) (n := 2) (body := b_is_checked_term (F n)) (ds := [a0, a1]) (ε := [some a0, some a1]) rfl rfl e hl)
theorem Fr_is_ref_term {n : Nat} {a0 a1 : D} {m m' : M} {d : D} (e : b_is_ref_term (F n) [some a0, some a1] m = some (.rt d m')) (hl : m'.length = m.length := by rfl) : F (n + 1) .is_ref_term [a0, a1] m = some (d, m') := Eq.trans (congrFun (congrFun (show F (n + 1) .is_ref_term = fnD 2 2 (b_is_ref_term (F n)) from rfl) _) _) (fnD_rt2 (np := 2) (n := 2) (body := b_is_ref_term (F n)) (ds := [a0, a1]) (ε := [some a0, some a1]) rfl rfl e hl)
theorem Fr_is_term_within {n : Nat} {a0 a1 : D} {m m' : M} {d : D} (e : (sSeq (b0_is_term_within (F n)) (formTail (F n))) [some a0, some a1, none] m = some (.rt d m')) (hl : m'.length = m.length := by rfl) : F (n + 1) .is_term_within [a0, a1] m = some (d, m') := Eq.trans (congrFun (congrFun (show F (n + 1) .is_term_within = fnD 2 3 ((sSeq (b0_is_term_within (F n)) (formTail (F n)))) from rfl) _) _) (fnD_rt2 (np := 2) (n := 3) (body := (sSeq (b0_is_term_within (F n)) (formTail (F n)))) (ds := [a0, a1]) (ε := [some a0, some a1, none]) rfl rfl e hl)
theorem Fr_is_any_term {n : Nat} {a0 : D} {m m' : M} {d : D} (e : b_is_any_term (F n) [some a0] m = some (.rt d m')) (hl : m'.length = m.length := by rfl) : F (n + 1) .is_any_term [a0] m = some (d, m') := Eq.trans (congrFun (congrFun (show F (n + 1) .is_any_term = fnD 1 1 (b_is_any_term (F n)) from rfl) _) _) (fnD_rt2 (np := 1) (n := 1) (body := b_is_any_term (F n)) (ds := [a0]) (ε := [some a0]) rfl rfl e hl)
theorem Fr_is_entry {n : Nat} {a0 : D} {m m' : M} {d : D} (e : b_is_entry (F n) [some a0] m = some (.rt d m')) (hl : m'.length = m.length := by rfl) : F (n + 1) .is_entry [a0] m = some (d, m') := Eq.trans (congrFun (congrFun (show F (n + 1) .is_entry = fnD 1 1 (b_is_entry (F n)) from rfl) _) _) (fnD_rt2 (np := 1) (n := 1) (body := b_is_entry (F n)) (ds := [a0]) (ε := [some a0]) rfl rfl e hl)
theorem Fr_is_any_sheet {n : Nat} {a0 : D} {m m' : M} {d : D} (e : b_is_any_sheet (F n) [some a0, none, none, none, none, none] m = some (.rt d m')) (hl : m'.length = m.length := by rfl) : F (n + 1) .is_any_sheet [a0] m = some (d, m') := Eq.trans (congrFun (congrFun (show F (n + 1) .is_any_sheet = fnD 1 6 (b_is_any_sheet (F n)) from rfl) _) _) (fnD_rt2 (np := 1) (n := 6) (body := b_is_any_sheet (F n)) (ds := [a0]) (ε := [some a0, none, none, none, none, none]) rfl rfl e hl)
theorem Fr_parts_of {n : Nat} {a0 : D} {m m' : M} {d : D} (e : b_parts_of (F n) [some a0, none, none] m = some (.rt d m')) (hl : m'.length = m.length := by rfl) : F (n + 1) .parts_of [a0] m = some (d, m') := Eq.trans (congrFun (congrFun (show F (n + 1) .parts_of = fnD 1 3 (b_parts_of (F n)) from rfl) _) _) (fnD_rt2 (np := 1) (n := 3) (body := b_parts_of (F n)) (ds := [a0]) (ε := [some a0, none, none]) rfl rfl e hl)
theorem Fr_refs_of {n : Nat} {a0 : D} {m m' : M} {d : D} (e : b_refs_of (F n) [some a0, none, none] m = some (.rt d m')) (hl : m'.length = m.length := by rfl) : F (n + 1) .refs_of [a0] m = some (d, m') := Eq.trans (congrFun (congrFun (show F (n + 1) .refs_of = fnD 1 3 (b_refs_of (F n)) from rfl) _) _) (fnD_rt2 (np := 1) (n := 3) (body := b_refs_of (F n)) (ds := [a0]) (ε := [some a0, none, none]) rfl rfl e hl)
theorem Fr_term_at {n : Nat} {a0 a1 : D} {m m' : M} {d : D} (e : b_term_at (F n) [some a0, some a1, none, none] m = some (.rt d m')) (hl : m'.length = m.length := by rfl) : F (n + 1) .term_at [a0, a1] m = some (d, m') := Eq.trans (congrFun (congrFun (show F (n + 1) .term_at = fnD 2 4 (b_term_at (F n)) from rfl) _) _) (fnD_rt2 (np := 2) (n := 4) (body := b_term_at (F n)) (ds := [a0, a1]) (ε := [some a0, some a1, none, none]) rfl rfl e hl)
theorem Fr_paths_of {n : Nat} {a0 : D} {m m' : M} {d : D} (e : b_paths_of (F n) [some a0, none, none, none, none] m = some (.rt d m')) (hl : m'.length = m.length := by rfl) : F (n + 1) .paths_of [a0] m = some (d, m') := Eq.trans (congrFun (congrFun (show F (n + 1) .paths_of = fnD 1 5 (b_paths_of (F n)) from rfl) _) _) (fnD_rt2 (np := 1) (n := 5) (body := b_paths_of (F n)) (ds := [a0]) (ε := [some a0, none, none, none, none]) rfl rfl e hl)
theorem Fr_term_of_name {n : Nat} {a0 a1 : D} {m m' : M} {d : D} (e : b_term_of_name (F n) [some a0, some a1, none, none] m = some (.rt d m')) (hl : m'.length = m.length := by rfl) : F (n + 1) .term_of_name [a0, a1] m = some (d, m') := Eq.trans (congrFun (congrFun (show F (n + 1) .term_of_name = fnD 2 4 (b_term_of_name (F n)) from rfl) _) _) (fnD_rt2 (np := 2) (n := 4) (body := b_term_of_name (F n)) (ds := [a0, a1]) (ε := [some a0, some a1, none, none]) rfl rfl e hl)
theorem Fr_is_place_of {n : Nat} {a0 a1 : D} {m m' : M} {d : D} (e : b_is_place_of (F n) [some a0, some a1, none] m = some (.rt d m')) (hl : m'.length = m.length := by rfl) : F (n + 1) .is_place_of [a0, a1] m = some (d, m') := Eq.trans (congrFun (congrFun (show F (n + 1) .is_place_of = fnD 2 3 (b_is_place_of (F n)) from rfl) _) _) (fnD_rt2 (np := 2) (n := 3) (body := b_is_place_of (F n)) (ds := [a0, a1]) (ε := [some a0, some a1, none]) rfl rfl e hl)
theorem Fr_need_sheet {n : Nat} {a0 : D} {m m' : M} {d : D} (e : b_need_sheet (F n) [some a0] m = some (.rt d m')) (hl : m'.length = m.length := by rfl) : F (n + 1) .need_sheet [a0] m = some (d, m') := Eq.trans (congrFun (congrFun (show F (n + 1) .need_sheet = fnD 1 1 (b_need_sheet (F n)) from rfl) _) _) (fnD_rt2 (np := 1) (n := 1) (body := b_need_sheet (F n)) (ds := [a0]) (ε := [some a0]) rfl rfl e hl)
theorem Fr_need_place {n : Nat} {a0 a1 : D} {m m' : M} {d : D} (e : b_need_place (F n) [some a0, some a1] m = some (.rt d m')) (hl : m'.length = m.length := by rfl) : F (n + 1) .need_place [a0, a1] m = some (d, m') := Eq.trans (congrFun (congrFun (show F (n + 1) .need_place = fnD 2 2 (b_need_place (F n)) from rfl) _) _) (fnD_rt2 (np := 2) (n := 2) (body := b_need_place (F n)) (ds := [a0, a1]) (ε := [some a0, some a1]) rfl rfl e hl)
theorem Fr_is_term {n : Nat} {a0 : D} {m m' : M} {d : D} (e : b_is_term (F n) [some a0] m = some (.rt d m')) (hl : m'.length = m.length := by rfl) : F (n + 1) .is_term [a0] m = some (d, m') := Eq.trans (congrFun (congrFun (show F (n + 1) .is_term = fnD 1 1 (b_is_term (F n)) from rfl) _) _) (fnD_rt2 (np := 1) (n := 1) (body := b_is_term (F n)) (ds := [a0]) (ε := [some a0]) rfl rfl e hl)
theorem Fr_is_sheet {n : Nat} {a0 : D} {m m' : M} {d : D} (e : b_is_sheet (F n) [some a0] m = some (.rt d m')) (hl : m'.length = m.length := by rfl) : F (n + 1) .is_sheet [a0] m = some (d, m') := Eq.trans (congrFun (congrFun (show F (n + 1) .is_sheet = fnD 1 1 (b_is_sheet (F n)) from rfl) _) _) (fnD_rt2 (np := 1) (n := 1) (body := b_is_sheet (F n)) (ds := [a0]) (ε := [some a0]) rfl rfl e hl)
theorem Fr_places {n : Nat} {a0 : D} {m m' : M} {d : D} (e : b_places (F n) [some a0, none, none, none] m = some (.rt d m')) (hl : m'.length = m.length := by rfl) : F (n + 1) .places [a0] m = some (d, m') := Eq.trans (congrFun (congrFun (show F (n + 1) .places = fnD 1 4 (b_places (F n)) from rfl) _) _) (fnD_rt2 (np := 1) (n := 4) (body := b_places (F n)) (ds := [a0]) (ε := [some a0, none, none, none]) rfl rfl e hl)
theorem Fr_part {n : Nat} {a0 a1 : D} {m m' : M} {d : D} (e : b_part (F n) [some a0, some a1] m = some (.rt d m')) (hl : m'.length = m.length := by rfl) : F (n + 1) .part [a0, a1] m = some (d, m') := Eq.trans (congrFun (congrFun (show F (n + 1) .part = fnD 2 2 (b_part (F n)) from rfl) _) _) (fnD_rt2 (np := 2) (n := 2) (body := b_part (F n)) (ds := [a0, a1]) (ε := [some a0, some a1]) rfl rfl e hl)
theorem Fr_law_take {n : Nat} {a0 a1 : D} {m m' : M} {d : D} (e : b_law_take (F n) [some a0, some a1] m = some (.rt d m')) (hl : m'.length = m.length := by rfl) : F (n + 1) .law_take [a0, a1] m = some (d, m') := Eq.trans (congrFun (congrFun (show F (n + 1) .law_take = fnD 2 2 (b_law_take (F n)) from rfl) _) _) (fnD_rt2 (np := 2) (n := 2) (body := b_law_take (F n)) (ds := [a0, a1]) (ε := [some a0, some a1]) rfl rfl e hl)
theorem Fr_law_bits {n : Nat} {a0 a1 : D} {m m' : M} {d : D} (e : b_law_bits (F n) [some a0, some a1, none] m = some (.rt d m')) (hl : m'.length = m.length := by rfl) : F (n + 1) .law_bits [a0, a1] m = some (d, m') := Eq.trans (congrFun (congrFun (show F (n + 1) .law_bits = fnD 2 3 (b_law_bits (F n)) from rfl) _) _) (fnD_rt2 (np := 2) (n := 3) (body := b_law_bits (F n)) (ds := [a0, a1]) (ε := [some a0, some a1, none]) rfl rfl e hl)
theorem Fr_law_atom {n : Nat} {a0 a1 : D} {m m' : M} {d : D} (e : b_law_atom (F n) [some a0, some a1] m = some (.rt d m')) (hl : m'.length = m.length := by rfl) : F (n + 1) .law_atom [a0, a1] m = some (d, m') := Eq.trans (congrFun (congrFun (show F (n + 1) .law_atom = fnD 2 2 (b_law_atom (F n)) from rfl) _) _) (fnD_rt2 (np := 2) (n := 2) (body := b_law_atom (F n)) (ds := [a0, a1]) (ε := [some a0, some a1]) rfl rfl e hl)
theorem Fr_law_label {n : Nat} {a0 a1 : D} {m m' : M} {d : D} (e : b_law_label (F n) [some a0, some a1] m = some (.rt d m')) (hl : m'.length = m.length := by rfl) : F (n + 1) .law_label [a0, a1] m = some (d, m') := Eq.trans (congrFun (congrFun (show F (n + 1) .law_label = fnD 2 2 (b_law_label (F n)) from rfl) _) _) (fnD_rt2 (np := 2) (n := 2) (body := b_law_label (F n)) (ds := [a0, a1]) (ε := [some a0, some a1]) rfl rfl e hl)
theorem Fr_law_machine {n : Nat} {a0 : D} {m m' : M} {d : D} (e : b_law_machine (F n) [some a0, none, none, none] m = some (.rt d m')) (hl : m'.length = m.length := by rfl) : F (n + 1) .law_machine [a0] m = some (d, m') := Eq.trans (congrFun (congrFun (show F (n + 1) .law_machine = fnD 1 4 (b_law_machine (F n)) from rfl) _) _) (fnD_rt2 (np := 1) (n := 4) (body := b_law_machine (F n)) (ds := [a0]) (ε := [some a0, none, none, none]) rfl rfl e hl)
theorem Fr_law_names {n : Nat} {a0 a1 : D} {m m' : M} {d : D} (e : b_law_names (F n) [some a0, some a1, none, none, none, none] m = some (.rt d m')) (hl : m'.length = m.length := by rfl) : F (n + 1) .law_names [a0, a1] m = some (d, m') := Eq.trans (congrFun (congrFun (show F (n + 1) .law_names = fnD 2 6 (b_law_names (F n)) from rfl) _) _) (fnD_rt2 (np := 2) (n := 6) (body := b_law_names (F n)) (ds := [a0, a1]) (ε := [some a0, some a1, none, none, none, none]) rfl rfl e hl)
theorem Fr_law_same {n : Nat} {a0 a1 : D} {m m' : M} {d : D} (e : b_law_same (F n) [some a0, some a1, none] m = some (.rt d m')) (hl : m'.length = m.length := by rfl) : F (n + 1) .law_same [a0, a1] m = some (d, m') := Eq.trans (congrFun (congrFun (show F (n + 1) .law_same = fnD 2 3 (b_law_same (F n)) from rfl) _) _) (fnD_rt2 (np := 2) (n := 3) (body := b_law_same (F n)) (ds := [a0, a1]) (ε := [some a0, some a1, none]) rfl rfl e hl)
theorem Fr_law_parts {n : Nat} {a0 : D} {m m' : M} {d : D} (e : b_law_parts (F n) [some a0, none, none] m = some (.rt d m')) (hl : m'.length = m.length := by rfl) : F (n + 1) .law_parts [a0] m = some (d, m') := Eq.trans (congrFun (congrFun (show F (n + 1) .law_parts = fnD 1 3 (b_law_parts (F n)) from rfl) _) _) (fnD_rt2 (np := 1) (n := 3) (body := b_law_parts (F n)) (ds := [a0]) (ε := [some a0, none, none]) rfl rfl e hl)
theorem Fr_law_paths {n : Nat} {a0 a1 : D} {m m' : M} {d : D} (e : b_law_paths (F n) [some a0, some a1, none, none, none] m = some (.rt d m')) (hl : m'.length = m.length := by rfl) : F (n + 1) .law_paths [a0, a1] m = some (d, m') := Eq.trans (congrFun (congrFun (show F (n + 1) .law_paths = fnD 2 5 (b_law_paths (F n)) from rfl) _) _) (fnD_rt2 (np := 2) (n := 5) (body := b_law_paths (F n)) (ds := [a0, a1]) (ε := [some a0, some a1, none, none, none]) rfl rfl e hl)
theorem Fr_law_at {n : Nat} {a0 a1 : D} {m m' : M} {d : D} (e : b_law_at (F n) [some a0, some a1, none] m = some (.rt d m')) (hl : m'.length = m.length := by rfl) : F (n + 1) .law_at [a0, a1] m = some (d, m') := Eq.trans (congrFun (congrFun (show F (n + 1) .law_at = fnD 2 3 (b_law_at (F n)) from rfl) _) _) (fnD_rt2 (np := 2) (n := 3) (body := b_law_at (F n)) (ds := [a0, a1]) (ε := [some a0, some a1, none]) rfl rfl e hl)
theorem Fr_law_put {n : Nat} {a0 a1 a2 : D} {m m' : M} {d : D} (e : b_law_put (F n) [some a0, some a1, some a2, none, none, none] m = some (.rt d m')) (hl : m'.length = m.length := by rfl) : F (n + 1) .law_put [a0, a1, a2] m = some (d, m') := Eq.trans (congrFun (congrFun (show F (n + 1) .law_put = fnD 3 6 (b_law_put (F n)) from rfl) _) _) (fnD_rt2 (np := 3) (n := 6) (body := b_law_put (F n)) (ds := [a0, a1, a2]) (ε := [some a0, some a1, some a2, none, none, none]) rfl rfl e hl)
theorem Fr_law_places {n : Nat} {a0 : D} {m m' : M} {d : D} (e : b_law_places (F n) [some a0, none, none, none] m = some (.rt d m')) (hl : m'.length = m.length := by rfl) : F (n + 1) .law_places [a0] m = some (d, m') := Eq.trans (congrFun (congrFun (show F (n + 1) .law_places = fnD 1 4 (b_law_places (F n)) from rfl) _) _) (fnD_rt2 (np := 1) (n := 4) (body := b_law_places (F n)) (ds := [a0]) (ε := [some a0, none, none, none]) rfl rfl e hl)
theorem Fr_law_laid {n : Nat} {a0 a1 a2 : D} {m m' : M} {d : D} (e : b_law_laid (F n) [some a0, some a1, some a2, none, none] m = some (.rt d m')) (hl : m'.length = m.length := by rfl) : F (n + 1) .law_laid [a0, a1, a2] m = some (d, m') := Eq.trans (congrFun (congrFun (show F (n + 1) .law_laid = fnD 3 5 (b_law_laid (F n)) from rfl) _) _) (fnD_rt2 (np := 3) (n := 5) (body := b_law_laid (F n)) (ds := [a0, a1, a2]) (ε := [some a0, some a1, some a2, none, none]) rfl rfl e hl)
theorem Fr_law_loose {n : Nat} {a0 a1 a2 : D} {m m' : M} {d : D} (e : b_law_loose (F n) [some a0, some a1, some a2, none, none, none, none, none] m = some (.rt d m')) (hl : m'.length = m.length := by rfl) : F (n + 1) .law_loose [a0, a1, a2] m = some (d, m') := Eq.trans (congrFun (congrFun (show F (n + 1) .law_loose = fnD 3 8 (b_law_loose (F n)) from rfl) _) _) (fnD_rt2 (np := 3) (n := 8) (body := b_law_loose (F n)) (ds := [a0, a1, a2]) (ε := [some a0, some a1, some a2, none, none, none, none, none]) rfl rfl e hl)
theorem Fr_law_loose_sheet {n : Nat} {a0 : D} {m m' : M} {d : D} (e : b_law_loose_sheet (F n) [some a0, none, none, none] m = some (.rt d m')) (hl : m'.length = m.length := by rfl) : F (n + 1) .law_loose_sheet [a0] m = some (d, m') := Eq.trans (congrFun (congrFun (show F (n + 1) .law_loose_sheet = fnD 1 4 (b_law_loose_sheet (F n)) from rfl) _) _) (fnD_rt2 (np := 1) (n := 4) (body := b_law_loose_sheet (F n)) (ds := [a0]) (ε := [some a0, none, none, none]) rfl rfl e hl)
theorem Fr_law_deep {n : Nat} {a0 a1 : D} {m m' : M} {d : D} (e : b_law_deep (F n) [some a0, some a1, none, none, none] m = some (.rt d m')) (hl : m'.length = m.length := by rfl) : F (n + 1) .law_deep [a0, a1] m = some (d, m') := Eq.trans (congrFun (congrFun (show F (n + 1) .law_deep = fnD 2 5 (b_law_deep (F n)) from rfl) _) _) (fnD_rt2 (np := 2) (n := 5) (body := b_law_deep (F n)) (ds := [a0, a1]) (ε := [some a0, some a1, none, none, none]) rfl rfl e hl)
theorem Fr_law_right {n : Nat} {a0 : D} {m m' : M} {d : D} (e : b_law_right (F n) [some a0, none, none] m = some (.rt d m')) (hl : m'.length = m.length := by rfl) : F (n + 1) .law_right [a0] m = some (d, m') := Eq.trans (congrFun (congrFun (show F (n + 1) .law_right = fnD 1 3 (b_law_right (F n)) from rfl) _) _) (fnD_rt2 (np := 1) (n := 3) (body := b_law_right (F n)) (ds := [a0]) (ε := [some a0, none, none]) rfl rfl e hl)
theorem Fr_law_wrong {n : Nat} {a0 : D} {m m' : M} {d : D} (e : b_law_wrong (F n) [some a0, none, none] m = some (.rt d m')) (hl : m'.length = m.length := by rfl) : F (n + 1) .law_wrong [a0] m = some (d, m') := Eq.trans (congrFun (congrFun (show F (n + 1) .law_wrong = fnD 1 3 (b_law_wrong (F n)) from rfl) _) _) (fnD_rt2 (np := 1) (n := 3) (body := b_law_wrong (F n)) (ds := [a0]) (ε := [some a0, none, none]) rfl rfl e hl)
theorem Fr_law_around {n : Nat} {a0 a1 : D} {m m' : M} {d : D} (e : b_law_around (F n) [some a0, some a1, none, none, none, none, none] m = some (.rt d m')) (hl : m'.length = m.length := by rfl) : F (n + 1) .law_around [a0, a1] m = some (d, m') := Eq.trans (congrFun (congrFun (show F (n + 1) .law_around = fnD 2 7 (b_law_around (F n)) from rfl) _) _) (fnD_rt2 (np := 2) (n := 7) (body := b_law_around (F n)) (ds := [a0, a1]) (ε := [some a0, some a1, none, none, none, none, none]) rfl rfl e hl)
theorem Fr_law_bent {n : Nat} {a0 a1 a2 : D} {m m' : M} {d : D} (e : b_law_bent (F n) [some a0, some a1, some a2, none, none, none, none, none] m = some (.rt d m')) (hl : m'.length = m.length := by rfl) : F (n + 1) .law_bent [a0, a1, a2] m = some (d, m') := Eq.trans (congrFun (congrFun (show F (n + 1) .law_bent = fnD 3 8 (b_law_bent (F n)) from rfl) _) _) (fnD_rt2 (np := 3) (n := 8) (body := b_law_bent (F n)) (ds := [a0, a1, a2]) (ε := [some a0, some a1, some a2, none, none, none, none, none]) rfl rfl e hl)
end KK
end
section
set_option Elab.async false
set_option linter.all false
set_option maxRecDepth 100000
namespace KK
open PySem PySem.Spec PyProof.Rows L2 DL
theorem pred {k n : Nat} (h : k + 1 ≤ n) : ∃ j, n = j + 1 ∧ k ≤ j := ⟨n - 1, by omega, by omega⟩
def isI : D → Bool | .int _ => true | _ => false
def isS : D → Bool | .str _ => true | _ => false
def isT : D → Bool | .tup _ => true | _ => false
theorem ev_integer {n : Nat} (h : 1 ≤ n) (v : D) (m : M) : F n .is_integer [v] m = some (.bl (isI v), m) := by
  obtain ⟨j, rfl, _⟩ := pred h
  exact Fr_is_integer (by cases v <;> rfl)
theorem ev_string {n : Nat} (h : 1 ≤ n) (v : D) (m : M) : F n .is_string [v] m = some (.bl (isS v), m) := by
  obtain ⟨j, rfl, _⟩ := pred h
  exact Fr_is_string (by cases v <;> rfl)
theorem ev_tuple {n : Nat} (h : 1 ≤ n) (v : D) (m : M) : F n .is_tuple [v] m = some (.bl (isT v), m) := by
  obtain ⟨j, rfl, _⟩ := pred h
  exact Fr_is_tuple (by cases v <;> rfl)
theorem eqG_int (i j : Int) (m : M) : eqG (.int i) (.int j) m = some (.bl (decide (i = j))) := by
  show (((if scal (V.int i) (V.int j) = true then some (decide (V.int i = V.int j)) else none : Option Bool).or _).map D.bl) = _
  rw [if_pos (by rfl)]
  simp
theorem neG_int (i j : Int) (m : M) : neG (.int i) (.int j) m = some (.bl (!decide (i = j))) := by
  show (((if scal (V.int i) (V.int j) = true then some (decide (V.int i = V.int j)) else none : Option Bool).or _).map fun b => D.bl !b) = _
  rw [if_pos (by rfl)]
  simp
theorem eqG_str (i j : Str) (m : M) : eqG (.str i) (.str j) m = some (.bl (decide (i = j))) := by
  show (((if scal (V.str i) (V.str j) = true then some (decide (V.str i = V.str j)) else none : Option Bool).or _).map D.bl) = _
  rw [if_pos (by rfl)]
  simp
theorem neG_str (i j : Str) (m : M) : neG (.str i) (.str j) m = some (.bl (!decide (i = j))) := by
  show (((if scal (V.str i) (V.str j) = true then some (decide (V.str i = V.str j)) else none : Option Bool).or _).map fun b => D.bl !b) = _
  rw [if_pos (by rfl)]
  simp
theorem chain_le (a x b : Int) (ε : Ev) (m : M) (fa fb fc : DL.F) (ha : fa ε m = some (.int a, m)) (hb : fb ε m = some (.int x, m)) (hc : fc ε m = some (.int b, m)) : fChain leG leG fa fb fc ε m = some (.bl (decide (a ≤ x) && decide (x ≤ b)), m) := by
  unfold fChain
  simp only [ha, hb, hc, leG, Option.bind_some]
  by_cases h : a ≤ x <;> simp [h, hc, leG]
theorem chain_lt (a x b : Int) (ε : Ev) (m : M) (fa fb fc : DL.F) (ha : fa ε m = some (.int a, m)) (hb : fb ε m = some (.int x, m)) (hc : fc ε m = some (.int b, m)) : fChain ltG ltG fa fb fc ε m = some (.bl (decide (a < x) && decide (x < b)), m) := by
  unfold fChain
  simp only [ha, hb, hc, ltG, Option.bind_some]
  by_cases h : a < x <;> simp [h, hc, ltG]
def withinB (v : D) (a b : Int) : Bool := match v with | .int i => decide (a ≤ i) && decide (i ≤ b) | _ => false
theorem ev_within {n : Nat} (h : 2 ≤ n) (v : D) (a b : Int) (m : M) : F n .is_within [v, .int a, .int b] m = some (.bl (withinB v a b), m) := by
  obtain ⟨j, rfl, hj⟩ := pred h
  refine Fr_is_within ?_
  simp only [b_is_within, sSeq, sIf, sRet, sSet, sExp, sNx, fAnd, fOr, fNot, fNotT, fAndT, fOrT, fT, fTru, fIf, fBin, fUn, fC, fV, fCall, fApp, faCons, faNil, Option.bind_some, Option.map_some, Option.bind_none, Option.map_none, List.getElem?_cons_zero, List.getElem?_cons_succ, List.set_cons_zero, List.set_cons_succ, id, Bool.false_eq_true, if_true, if_false, Bool.not_true, Bool.not_false, ev_integer hj]
  cases v with
  | int i => simp only [isI]; rw [chain_le a i b _ _ _ _ _ rfl rfl rfl]; rfl
  | _ => rfl
def tupB (v : D) (k : Nat) : Bool := match v with | .tup l => decide (l.length = k) | _ => false
theorem ev_tuple_of {n : Nat} (h : 2 ≤ n) (v : D) (k : Nat) (m : M) : F n .is_tuple_of [v, .int k] m = some (.bl (tupB v k), m) := by
  obtain ⟨j, rfl, hj⟩ := pred h
  refine Fr_is_tuple_of ?_
  simp only [b_is_tuple_of, sSeq, sIf, sRet, sSet, sExp, sNx, fAnd, fOr, fNot, fNotT, fAndT, fOrT, fT, fTru, fIf, fBin, fUn, fC, fV, fCall, fApp, faCons, faNil, Option.bind_some, Option.map_some, Option.bind_none, Option.map_none, List.getElem?_cons_zero, List.getElem?_cons_succ, List.set_cons_zero, List.set_cons_succ, id, Bool.false_eq_true, if_true, if_false, Bool.not_true, Bool.not_false, ev_tuple hj]
  cases v with
  | tup l =>
    simp only [isT, lenG, sSeq, sIf, sRet, sSet, sExp, sNx, fAnd, fOr, fNot, fNotT, fAndT, fOrT, fT, fTru, fIf, fBin, fUn, fC, fV, fCall, fApp, faCons, faNil, Option.bind_some, Option.map_some, Option.bind_none, Option.map_none, List.getElem?_cons_zero, List.getElem?_cons_succ, List.set_cons_zero, List.set_cons_succ, id, Bool.false_eq_true, if_true, if_false, Bool.not_true, Bool.not_false, eqG_int, tupB]
    congr 4
    exact propext ⟨fun h => by omega, fun h => by omega⟩
  | _ => rfl
theorem all_bls (l : List Bool) : blsD (l.map D.bl) = some l := by
  induction l with
  | nil => rfl
  | cons b r ih => simp [blsD, ih]
theorem lc_run {i : Nat} {f : DL.F} {ε : Ev} {m : M} {g : D → D} : ∀ (l out : List D), (∀ d ∈ l, f (ε.set i (some d)) m = some (g d, m)) → out.length + l.length < sizeLine → lcD (DL.stN i) fYes f ε l out m = some (out ++ l.map g, m)
  | [], out, _, _ => by simp [lcD]
  | d :: r, out, h, hl => by
    unfold lcD
    have hl' : out.length + (r.length + 1) < sizeLine := hl
    simp only [DL.stN, fYes, Option.bind_some, if_true, h d List.mem_cons_self]
    rw [if_pos (by omega), lc_run r (out ++ [g d]) (fun x hx => h x (List.mem_cons_of_mem _ hx)) (by rw [List.length_append]; show out.length + 1 + r.length < sizeLine; omega)]
    simp
theorem fLc_run {i : Nat} {fi : FI} {f : DL.F} {vs : List Nat} {ε : Ev} {m : M} {g : D → D} {l : List D} (hi : fi ε m = some (l, m)) (h : ∀ d ∈ l, f ((wipeE ε vs).set i (some d)) m = some (g d, m)) (hl : l.length < sizeLine) : fLc fi (DL.stN i) fYes f vs ε m = some (.lst (l.map g), m) := by
  unfold fLc fLcN
  simp only [hi, Option.bind_some]
  rw [lc_run l [] h (by simpa using hl)]
  simp
theorem all_run {i : Nat} {fi : FI} {f : DL.F} {vs : List Nat} {ε : Ev} {m : M} {p : D → Bool} {l : List D} (hi : fi ε m = some (l, m)) (h : ∀ d ∈ l, f ((wipeE ε vs).set i (some d)) m = some (.bl (p d), m)) (hl : l.length < sizeLine) : fApp allG (f1 (fLc fi (DL.stN i) fYes f vs)) ε m = some (.bl (l.all p), m) := by
  have e := fLc_run (g := fun d => .bl (p d)) hi h hl
  unfold fApp
  simp only [f1, faCons, faNil, e, Option.bind_some, Option.map_some, allG]
  have : l.map (fun d => D.bl (p d)) = (l.map p).map D.bl := by simp
  rw [this, all_bls]
  simp [List.all_map]
theorem putKey_len (acc : List Key) (k : Key) : (putKey acc k).length ≤ acc.length + 1 := by
  unfold putKey
  split <;> simp
theorem sc_run {i : Nat} {f : DL.F} {ε : Ev} {m : M} {g : D → D} {key : D → Key} : ∀ (l : List D) (acc : List Key), (∀ d ∈ l, f (ε.set i (some d)) m = some (g d, m) ∧ keyD (g d) = some (key d)) → acc.length + l.length < scanBound → scD (DL.stN i) f ε l acc m = some (l.foldl (fun a d => putKey a (key d)) acc, m)
  | [], acc, _, _ => rfl
  | d :: r, acc, h, hl => by
    unfold scD
    have hl' : acc.length + (r.length + 1) < scanBound := hl
    have hd := h d List.mem_cons_self
    simp only [DL.stN, Option.bind_some, hd.1, hd.2]
    rw [if_pos (by omega), sc_run r _ (fun x hx => h x (List.mem_cons_of_mem _ hx)) (by have := putKey_len acc (key d); omega)]
    rfl
theorem lenSc_run {i : Nat} {fi : FI} {f : DL.F} {vs : List Nat} {ε : Ev} {m : M} {g : D → D} {key : D → Key} {l : List D} (hi : fi ε m = some (l, m)) (h : ∀ d ∈ l, f ((wipeE ε vs).set i (some d)) m = some (g d, m) ∧ keyD (g d) = some (key d)) (hl : l.length < scanBound) : fLenSc fi (DL.stN i) f vs ε m = some (.int (l.foldl (fun a d => putKey a (key d)) []).length, m) := by
  unfold fLenSc
  simp only [hi, Option.bind_some]
  rw [sc_run l [] h (by simpa using hl)]
  rfl
/-! ### smallness -/
mutual
def smD : D → Bool
  | .str s => decide (s.length ≤ 1000)
  | .tup l => decide (l.length ≤ 1000) && smsD l
  | .lst l => decide (l.length ≤ 1000) && smsD l
  | .mr _ => false
  | _ => true
def smsD : List D → Bool
  | [] => true
  | d :: r => smD d && smsD r
end
theorem smsD_mem : ∀ {l : List D} {d : D}, smsD l = true → d ∈ l → smD d = true
  | x :: r, d, h, hd => by
    rw [smsD, Bool.and_eq_true] at h
    rcases List.mem_cons.mp hd with rfl | hd
    · exact h.1
    · exact smsD_mem h.2 hd
theorem sm_tup {l : List D} (h : smD (.tup l) = true) : l.length ≤ 1000 ∧ smsD l = true := by
  rw [smD, Bool.and_eq_true] at h
  exact ⟨of_decide_eq_true h.1, h.2⟩
theorem sm_str {s : Str} (h : smD (.str s) = true) : s.length ≤ 1000 := by
  rw [smD] at h
  exact of_decide_eq_true h
theorem sz1000 {n : Nat} (h : n ≤ 1000) : n ≤ sizeLine := Nat.le_trans h (by decide)
theorem sz1000' {n : Nat} (h : n ≤ 1000) : n < sizeLine := Nat.lt_of_le_of_lt h (by decide)
def stripB (s : Str) : Bool := decide (Txt.stripChars s "01" = "")
def bitsB (v : D) (a b : Int) : Bool := match v with | .str s => stripB s && (decide (a ≤ s.length) && decide ((s.length : Int) ≤ b)) | _ => false
theorem ev_bits {n : Nat} (h : 2 ≤ n) (v : D) (hv : smD v = true) (m : M) : F n .is_bits [v] m = some (.bl (match v with | .str s => stripB s | _ => false), m) := by
  obtain ⟨j, rfl, hj⟩ := pred h
  refine Fr_is_bits ?_
  simp only [b_is_bits, sSeq, sIf, sRet, sSet, sExp, sNx, fAnd, fOr, fNot, fNotT, fAndT, fOrT, fT, fTru, fIf, fBin, fUn, fC, fV, fCall, fApp, faCons, faNil, Option.bind_some, Option.map_some, Option.bind_none, Option.map_none, List.getElem?_cons_zero, List.getElem?_cons_succ, List.set_cons_zero, List.set_cons_succ, id, Bool.false_eq_true, if_true, if_false, Bool.not_true, Bool.not_false, ev_string hj]
  cases v with
  | str s => simp only [isS, fMt, stripG, sSeq, sIf, sRet, sSet, sExp, sNx, fAnd, fOr, fNot, fNotT, fAndT, fOrT, fT, fTru, fIf, fBin, fUn, fC, fV, fCall, fApp, faCons, faNil, Option.bind_some, Option.map_some, Option.bind_none, Option.map_none, List.getElem?_cons_zero, List.getElem?_cons_succ, List.set_cons_zero, List.set_cons_succ, id, Bool.false_eq_true, if_true, if_false, Bool.not_true, Bool.not_false, if_pos (sz1000 (sm_str hv)), eqG_str]; rfl
  | _ => rfl
theorem len_str {i : Nat} {ε : Ev} {m : M} {s : Str} (h : ε[i]?.bind id = some (.str s)) (hs : s.length ≤ 1000) : fApp lenG (f1 (fV i)) ε m = some (.int s.length, m) := by
  simp only [sSeq, sIf, sRet, sSet, sExp, sNx, fAnd, fOr, fNot, fNotT, fAndT, fOrT, fT, fTru, fIf, fBin, fUn, fC, fV, fCall, fApp, faCons, faNil, Option.bind_some, Option.map_some, Option.bind_none, Option.map_none, List.getElem?_cons_zero, List.getElem?_cons_succ, List.set_cons_zero, List.set_cons_succ, id, Bool.false_eq_true, if_true, if_false, Bool.not_true, Bool.not_false, h, lenG, if_pos (sz1000 hs)]
theorem ev_bits_of {n : Nat} (h : 3 ≤ n) (v : D) (hv : smD v = true) (a b : Int) (m : M) : F n .is_bits_of [v, .int a, .int b] m = some (.bl (bitsB v a b), m) := by
  obtain ⟨j, rfl, hj⟩ := pred h
  refine Fr_is_bits_of ?_
  simp only [b_is_bits_of, sSeq, sIf, sRet, sSet, sExp, sNx, fAnd, fOr, fNot, fNotT, fAndT, fOrT, fT, fTru, fIf, fBin, fUn, fC, fV, fCall, fApp, faCons, faNil, Option.bind_some, Option.map_some, Option.bind_none, Option.map_none, List.getElem?_cons_zero, List.getElem?_cons_succ, List.set_cons_zero, List.set_cons_succ, id, Bool.false_eq_true, if_true, if_false, Bool.not_true, Bool.not_false, ev_bits hj v hv]
  cases v with
  | str s =>
    simp only [bitsB]
    cases hs : stripB s with
    | true => rw [chain_le a s.length b _ _ _ _ _ rfl (len_str (i := 0) rfl (sm_str hv)) rfl]; rfl
    | false => rfl
  | _ => rfl
def signB (c : Nat) : Bool := decide (32 ≤ c) && (decide (c ≤ 126) && (decide (c ≠ 39) && (decide (c ≠ 92) && decide (c ≠ 37))))
theorem ev_sign {n : Nat} (h : 1 ≤ n) (c : Nat) (m : M) : F n .is_sign [.str ⟨#[c]⟩] m = some (.bl (signB c), m) := by
  obtain ⟨j, rfl, hj⟩ := pred h
  refine Fr_is_sign ?_
  have l1 : decide (([c] : List Nat) < [32]) = decide (c < 32) := by simp [List.cons_lt_cons_iff]
  have l2 : decide (([126] : List Nat) < [c]) = decide (126 < c) := by simp [List.cons_lt_cons_iff]
  have q1 : (Str.ofString " ").cps.toList = [32] := by decide +kernel
  have q2 : (Str.ofString "~").cps.toList = [126] := by decide +kernel
  have q3 : decide ((⟨#[c]⟩ : Str) = Str.ofString "'") = decide (c = 39) := by
    have : Str.ofString "'" = ⟨#[39]⟩ := by decide +kernel
    rw [this]; simp
  have q4 : decide ((⟨#[c]⟩ : Str) = Str.ofString "\\") = decide (c = 92) := by
    have : Str.ofString "\\" = ⟨#[92]⟩ := by decide +kernel
    rw [this]; simp
  simp only [b_is_sign, sSeq, sIf, sRet, sSet, sExp, sNx, fAnd, fOr, fNot, fNotT, fAndT, fOrT, fT, fTru, fIf, fBin, fUn, fC, fV, fCall, fApp, faCons, faNil, Option.bind_some, Option.map_some, Option.bind_none, Option.map_none, List.getElem?_cons_zero, List.getElem?_cons_succ, List.set_cons_zero, List.set_cons_succ, id, Bool.false_eq_true, if_true, if_false, Bool.not_true, Bool.not_false, fChain, leG, neG_str, q1, q2, q3, q4, l1, l2]
  unfold signB
  by_cases h1 : c < 32
  · have : ¬ 32 ≤ c := by omega
    simp [h1, this]
  · have h1' : 32 ≤ c := by omega
    by_cases h2 : 126 < c
    · have : ¬ c ≤ 126 := by omega
      simp [h1, h1', h2, this]
    · have h2' : c ≤ 126 := by omega
      by_cases h3 : c = 39
      · simp [h1, h1', h2, h2', h3]
      · by_cases h4 : c = 92
        · simp [h1, h1', h2, h2', h3, h4]
        · have : ordG [D.str ⟨#[c]⟩] m = some (.int (c : Nat)) := rfl
          simp [h1, h1', h2, h2', h3, h4, this, neG_int]
          by_cases h5 : c = 37
          · simp [h5]
          · have : ¬ (c : Int) = 37 := by omega
            simp [h5, this]
end KK
end
section
set_option Elab.async false
set_option linter.all false
set_option maxRecDepth 100000
namespace KK
open PySem PySem.Spec PyProof.Rows L2 DL
def chP (p : Nat → Bool) : D → Bool | .str z => p (z.cps.getD 0 0) | _ => false
theorem signs_all (s : Str) (p : Nat → Bool) : (signsD s).all (chP p) = s.cps.toList.all p := by
  unfold signsD
  rw [List.all_map]
  rfl
theorem signs_mem {s : Str} {d : D} (h : d ∈ signsD s) : ∃ c, d = .str ⟨#[c]⟩ := by
  unfold signsD at h
  obtain ⟨c, _, e⟩ := List.mem_map.mp h
  exact ⟨c, e.symm⟩
theorem signs_len (s : Str) : (signsD s).length = s.length := by simp [signsD, Str.length]
def textB (v : D) : Bool := match v with | .str s => decide ((s.length : Int) ≤ 12) && s.cps.toList.all signB | _ => false
theorem ev_text {n : Nat} (h : 2 ≤ n) (v : D) (hv : smD v = true) (m : M) : F n .is_text [v] m = some (.bl (textB v), m) := by
  obtain ⟨j, rfl, hj⟩ := pred h
  refine Fr_is_text ?_
  cases v with
  | str s =>
    refine x_ret (x_andG (x_call1 rfl (ev_string hj _ _)) (x_and (x_bin (len_str (i := 0) rfl (sm_str hv)) rfl rfl) fun _ => ?_))
    rw [← signs_all]
    refine all_run (x_items rfl rfl) (fun d hd => ?_) (by rw [signs_len]; exact sz1000' (sm_str hv))
    obtain ⟨c, rfl⟩ := signs_mem hd
    exact x_call1 rfl (ev_sign hj c m)
  | _ => exact x_ret (x_andF (x_call1 rfl (ev_string hj _ _)))
def atomB (v : D) : Bool := match v with | .int i => decide (-10000000000000000000000000000000000000000 < i) && decide (i < 10000000000000000000000000000000000000000) | v => textB v
theorem ev_atom {n : Nat} (h : 3 ≤ n) (v : D) (hv : smD v = true) (m : M) : F n .is_atom [v] m = some (.bl (atomB v), m) := by
  obtain ⟨j, rfl, hj⟩ := pred h
  refine Fr_is_atom ?_
  cases v with
  | int i => exact x_seqR (x_ifT (x_tru (x_call1 rfl (ev_integer (by omega) _ _))) (x_ret (chain_lt _ i _ _ _ _ _ _ rfl rfl rfl)))
  | _ => exact x_seq (x_ifF (x_tru (x_call1 rfl (ev_integer (by omega) _ _))) rfl) (x_ret (x_call1 rfl (ev_text hj _ hv _)))
def lettersL : List Nat := (Str.ofString "abcdefghijklmnopqrstuvwxyz").cps.toList
def digitsL : List Nat := (Str.ofString "0123456789").cps.toList
def nameCh (c : Nat) : Bool := decide (c ∈ lettersL) || (decide (c ∈ digitsL) || decide (c = 95))
def nameB (v : D) : Bool := match v with | .str s => (decide ((1 : Int) ≤ s.length) && decide ((s.length : Int) ≤ 12)) && (decide (s.cps.getD 0 0 ∈ lettersL) && s.cps.toList.all nameCh) | _ => false
theorem ix_first {s : Str} {m : M} (h1 : 1 ≤ s.length) (h2 : s.length ≤ 1000) : ixG (.str s) (.int 0) m = some (.str ⟨#[s.cps.getD 0 0]⟩) := by
  show (if s.length ≤ sizeLine then (atI s.cps.toList 0).map fun c => D.str ⟨#[c]⟩ else none) = _
  rw [if_pos (sz1000 h2)]
  obtain ⟨⟨l⟩⟩ := s
  cases l with
  | nil => exact absurd h1 (by simp [Str.length])
  | cons c r => simp [atI, ixN]
theorem notIn_ch (c : Nat) (z : Str) (m : M) : notInG (.str ⟨#[c]⟩) (.str z) m = some (.bl (!decide (c ∈ z.cps.toList))) := rfl
theorem in_ch (c : Nat) (z : Str) (m : M) : inG (.str ⟨#[c]⟩) (.str z) m = some (.bl (decide (c ∈ z.cps.toList))) := rfl
theorem bt {t : FT} {ε : Ev} {m m1 : M} {x y : Bool} (h : t ε m = some (x, m1)) (e : x = y) : t ε m = some (y, m1) := e ▸ h
theorem bf {f : DL.F} {ε : Ev} {m m1 : M} {x y : Bool} (h : f ε m = some (.bl x, m1)) (e : x = y) : f ε m = some (.bl y, m1) := e ▸ h
theorem bs {f : FS} {ε : Ev} {m m1 : M} {x y : Bool} (h : f ε m = some (.rt (.bl x) m1)) (e : x = y) : f ε m = some (.rt (.bl y) m1) := e ▸ h
theorem ev_name {n : Nat} (h : 2 ≤ n) (v : D) (hv : smD v = true) (m : M) : F n .is_name [v] m = some (.bl (nameB v), m) := by
  obtain ⟨j, rfl, hj⟩ := pred h
  refine Fr_is_name ?_
  have q0 : (Str.ofString "_") = ⟨#[95]⟩ := by decide +kernel
  cases v with
  | str s =>
    have hs := sm_str hv
    have t1 : fNotT (fTru (fCall (F j .is_string) (faCons (fV 0) faNil))) [some (D.str s), none] m = some (false, m) := x_notT (x_tru (x_call1 rfl (ev_string hj (.str s) m)))
    have t2 := x_notT (x_t (chain_le 1 s.length 12 [some (.str s), none] m (fC (.int 1)) (fApp lenG (f1 (fV 0))) (fC (.int 12)) rfl (len_str (i := 0) rfl hs) rfl))
    by_cases h12 : (1 : Int) ≤ s.length ∧ (s.length : Int) ≤ 12
    · have t3 : fT (fBin notInG (fBin ixG (fV 0) (fC (.int 0))) (fC (.str (Str.ofString "abcdefghijklmnopqrstuvwxyz")))) [some (.str s), none] m = some (!decide (s.cps.getD 0 0 ∈ lettersL), m) :=
        x_t (x_bin (x_bin rfl rfl (ix_first (by omega) hs)) rfl (notIn_ch _ _ _))
      refine bs (x_guard (x_orTF t1 (x_orTF (bt t2 (by simp [h12])) t3)) (fun _ => x_ret (all_run (p := chP nameCh) (x_items rfl rfl) (fun d hd => ?_) (by rw [signs_len]; exact sz1000' hs)))) ?_
      · obtain ⟨c, rfl⟩ := signs_mem hd
        refine x_or (x_bin rfl rfl (in_ch c _ _)) fun _ => x_or (x_bin rfl rfl (in_ch c _ _)) fun _ => x_bin rfl rfl ?_
        rw [eqG_str, q0]
        simp
      · rw [signs_all]
        simp [nameB, h12]
    · refine x_seqR (x_ifT (x_orTF t1 (x_orTT (bt t2 ?_))) rfl) |>.trans ?_
      · by_cases h1 : (1 : Int) ≤ s.length
        · have : ¬ (s.length : Int) ≤ 12 := fun z => h12 ⟨h1, z⟩
          simp [this]
        · simp [h1]
      · have : nameB (.str s) = false := by
          unfold nameB
          by_cases h1 : (1 : Int) ≤ s.length
          · have : ¬ (s.length : Int) ≤ 12 := fun z => h12 ⟨h1, z⟩
            simp [this]
          · simp [h1]
        rw [this]
  | _ => exact x_seqR (x_ifT (x_orTT (bt (x_notT (x_tru (x_call1 rfl (ev_string hj _ m)))) rfl)) rfl)
def stepB : D → Bool | .int i => decide (0 ≤ i) | _ => false
def pathB (v : D) : Bool := match v with | .tup l => l.all stepB | _ => false
theorem ev_path {n : Nat} (h : 2 ≤ n) (v : D) (hv : smD v = true) (m : M) : F n .is_path [v] m = some (.bl (pathB v), m) := by
  obtain ⟨j, rfl, hj⟩ := pred h
  refine Fr_is_path ?_
  cases v with
  | tup l =>
    refine x_ret (x_andG (x_call1 rfl (ev_tuple hj (.tup l) m)) (all_run (x_items rfl rfl) (fun d hd => ?_) (sz1000' (sm_tup hv).1)))
    cases d with
    | int i => exact x_andG (x_call1 rfl (ev_integer hj (.int i) m)) (x_bin rfl rfl rfl)
    | _ => exact x_andF (x_call1 rfl (ev_integer hj _ m))
  | _ => exact x_ret (x_andF (x_call1 rfl (ev_tuple hj _ m)))
def ascB (ss : List Str) : Bool := (rngD 0 (ss.length - 1)).all fun d => match d with | .int k => decide ((ss.getD k.toNat default).cps.toList < (ss.getD (k.toNat + 1) default).cps.toList) | _ => false
theorem ev_ascending {n : Nat} (h : 1 ≤ n) (ss : List Str) (hv : ss.length ≤ 1000) (m : M) : F n .is_ascending [.lst (ss.map .str)] m = some (.bl (ascB ss), m) := by
  obtain ⟨j, rfl, hj⟩ := pred h
  refine Fr_is_ascending ?_
  have hr : fRng1 (fBin subG (fApp lenG (f1 (fV 0))) (fC (.int 1))) [some (.lst (ss.map .str)), none] m = some (rngD 0 (ss.length - 1), m) := by
    have e : fBin subG (fApp lenG (f1 (fV 0))) (fC (.int 1)) [some (.lst (ss.map .str)), none] m = some (.int ((ss.map D.str).length - 1 : Int), m) := x_bin (x_app1 rfl rfl) rfl rfl
    rw [fr, e, Option.bind_some, rngF_ok _ _ (by rw [pw62, List.length_map]; exact ⟨by omega, by omega⟩), List.length_map]
    congr 3
    omega
  refine x_ret (all_run hr (fun d hd => ?_) ?_)
  · unfold rngD at hd
    obtain ⟨k, hk, rfl⟩ := List.mem_map.mp hd
    have hk : k < ss.length - 1 := List.mem_range.mp hk
    have g1 : atI (ss.map D.str) (0 + (k : Int)) = some (.str (ss.getD k default)) := by
      unfold atI ixN
      rw [if_pos (by omega)]
      have : (0 + (k : Int)).toNat = k := by omega
      rw [this, List.length_map, if_pos (by omega)]
      simp [List.getD, List.getElem?_eq_getElem (by omega : k < ss.length)]
    have g2 : atI (ss.map D.str) (0 + (k : Int) + 1) = some (.str (ss.getD (k + 1) default)) := by
      unfold atI ixN
      rw [if_pos (by omega)]
      have : (0 + (k : Int) + 1).toNat = k + 1 := by omega
      rw [this, List.length_map, if_pos (by omega)]
      simp [List.getD, List.getElem?_eq_getElem (by omega : k + 1 < ss.length)]
    refine bf (x_bin (x_bin rfl rfl g1) (x_bin rfl (x_bin rfl rfl rfl) g2) rfl) ?_
    have : (0 + (k : Int)).toNat = k := by omega
    show _ = decide ((ss.getD (0 + (k : Int)).toNat default).cps.toList < (ss.getD ((0 + (k : Int)).toNat + 1) default).cps.toList)
    rw [this]
  · simp [rngD]
    exact sz1000' (by omega)
end KK
end
section
set_option Elab.async false
set_option linter.all false
set_option maxRecDepth 100000
namespace KK
open PySem PySem.Spec PyProof.Rows L2 DL
def a1 (l : List D) : D := (l[1]?).getD .non
def a2 (l : List D) : D := (l[2]?).getD .non
theorem eq_len2 (l : List D) (m : M) : eqG (.int (l.length : Nat)) (.int 2) m = some (.bl (decide (l.length = 2))) := by
  rw [eqG_int]; congr 2; exact decide_eq_decide.mpr ⟨fun h => by omega, fun h => by omega⟩
theorem eq_len3 (l : List D) (m : M) : eqG (.int (l.length : Nat)) (.int 3) m = some (.bl (decide (l.length = 3))) := by
  rw [eqG_int]; congr 2; exact decide_eq_decide.mpr ⟨fun h => by omega, fun h => by omega⟩
theorem ne_len2 (l : List D) (m : M) : neG (.int (l.length : Nat)) (.int 2) m = some (.bl (!decide (l.length = 2))) := by
  rw [neG_int]; congr 3; exact decide_eq_decide.mpr ⟨fun h => by omega, fun h => by omega⟩
theorem two {l : List D} (h : l.length = 2) : ∃ x, l = [x, a1 l] := by
  match l, h with
  | [x, y], _ => exact ⟨x, rfl⟩
theorem three {l : List D} (h : l.length = 3) : ∃ x, l = [x, a1 l, a2 l] := by
  match l, h with
  | [x, y, z], _ => exact ⟨x, rfl⟩
theorem ix_0 (x : D) (r : List D) (m : M) : ixG (.tup (x :: r)) (.int 0) m = some x := by
  have : (0 : Int) < (r.length : Int) + 1 := by omega
  simp [ixG, atI, ixN, this]
theorem ix_1 {l : List D} (h : l.length = 2 ∨ l.length = 3) (m : M) : ixG (.tup l) (.int 1) m = some (a1 l) := by
  rcases h with h | h
  · obtain ⟨x, e⟩ := two h; rw [e]; rfl
  · obtain ⟨x, e⟩ := three h; rw [e]; rfl
theorem ix_2 {l : List D} (h : l.length = 3) (m : M) : ixG (.tup l) (.int 2) m = some (a2 l) := by
  obtain ⟨x, e⟩ := three h; rw [e]; rfl
theorem sm_1 {l : List D} (h : smsD l = true) : smD (a1 l) = true := by
  unfold a1
  cases e : l[1]? with
  | none => rfl
  | some d => exact smsD_mem h (List.mem_of_getElem? e)
theorem sm_2 {l : List D} (h : smsD l = true) : smD (a2 l) = true := by
  unfold a2
  cases e : l[2]? with
  | none => rfl
  | some d => exact smsD_mem h (List.mem_of_getElem? e)
theorem len_tup {i : Nat} {ε : Ev} {m : M} {l : List D} (h : ε[i]?.bind id = some (.tup l)) : fApp lenG (f1 (fV i)) ε m = some (.int (l.length : Nat), m) := by
  simp only [sSeq, sIf, sRet, sSet, sExp, sNx, fAnd, fOr, fNot, fNotT, fAndT, fOrT, fT, fTru, fIf, fBin, fUn, fC, fV, fCall, fApp, faCons, faNil, Option.bind_some, Option.map_some, Option.bind_none, Option.map_none, List.getElem?_cons_zero, List.getElem?_cons_succ, List.set_cons_zero, List.set_cons_succ, id, Bool.false_eq_true, if_true, if_false, Bool.not_true, Bool.not_false, h, lenG]
section
variable {j : Nat} {l : List D} {d : Int} {m : M}
theorem ev_bits_term {n : Nat} (h : 4 ≤ n) (hs : smsD l = true) : F n .is_bits_term [.tup l, .int d] m = some (.bl (decide (l.length = 2) && bitsB (a1 l) 0 400), m) := by
  obtain ⟨j, rfl, hj⟩ := pred h
  refine Fr_is_bits_term (x_ret (x_and (x_bin (len_tup rfl) rfl (eq_len2 l m)) fun hl => ?_))
  exact x_call3 (x_bin rfl rfl (ix_1 (.inl (of_decide_eq_true hl)) m)) rfl rfl (ev_bits_of hj _ (sm_1 hs) _ _ _)
theorem ev_width_term {n : Nat} (h : 4 ≤ n) (hs : smsD l = true) : F n .is_width_term [.tup l, .int d] m = some (.bl (decide (l.length = 2) && withinB (a1 l) 0 8), m) := by
  obtain ⟨j, rfl, hj⟩ := pred h
  refine Fr_is_width_term (x_ret (x_and (x_bin (len_tup rfl) rfl (eq_len2 l m)) fun hl => ?_))
  exact x_call3 (x_bin rfl rfl (ix_1 (.inl (of_decide_eq_true hl)) m)) rfl rfl (ev_within (by omega) _ _ _ _)
theorem ev_ref_term {n : Nat} (h : 4 ≤ n) (hs : smsD l = true) : F n .is_ref_term [.tup l, .int d] m = some (.bl (decide (l.length = 2) && nameB (a1 l)), m) := by
  obtain ⟨j, rfl, hj⟩ := pred h
  refine Fr_is_ref_term (x_ret (x_and (x_bin (len_tup rfl) rfl (eq_len2 l m)) fun hl => ?_))
  exact x_call1 (x_bin rfl rfl (ix_1 (.inl (of_decide_eq_true hl)) m)) (ev_name (by omega) _ (sm_1 hs) _)
def tableRowB : D → Bool | .tup [x, y] => atomB x && bitsB y 0 400 | _ => false
theorem tupB2 {v : D} (h : tupB v 2 = true) : ∃ x y, v = .tup [x, y] := by
  cases v with
  | tup l =>
    have h : l.length = 2 := of_decide_eq_true h
    match l, h with
    | [x, y], _ => exact ⟨x, y, rfl⟩
  | _ => cases h
theorem tupB3 {v : D} (h : tupB v 3 = true) : ∃ x y z, v = .tup [x, y, z] := by
  cases v with
  | tup l =>
    have h : l.length = 3 := of_decide_eq_true h
    match l, h with
    | [x, y, z], _ => exact ⟨x, y, z, rfl⟩
  | _ => cases h
theorem tupB2_no {v : D} (h : tupB v 2 = false) : tableRowB v = false := by
  unfold tableRowB
  split
  · cases h
  · rfl
theorem ev_table_row {n : Nat} (h : 4 ≤ n) (v : D) (hs : smD v = true) : F n .is_table_row [v] m = some (.bl (tableRowB v), m) := by
  obtain ⟨j, rfl, hj⟩ := pred h
  refine Fr_is_table_row (x_ret ?_)
  cases hv : tupB v 2 with
  | false =>
    rw [tupB2_no hv]
    exact x_andF (bf (x_call2 rfl rfl (ev_tuple_of (by omega) v 2 m)) hv)
  | true =>
    obtain ⟨x, y, rfl⟩ := tupB2 hv
    have h2 := (sm_tup hs).2
    refine x_andG (bf (x_call2 rfl rfl (ev_tuple_of (by omega) _ 2 m)) hv) (x_and (x_call1 (x_bin rfl rfl rfl) (ev_atom (by omega) _ (smsD_mem h2 List.mem_cons_self) _)) fun _ => ?_)
    exact x_call3 (x_bin rfl rfl rfl) rfl rfl (ev_bits_of (by omega) _ (smsD_mem h2 (List.mem_cons_of_mem _ List.mem_cons_self)) _ _ _)
def fst0 : D → D | .tup (x :: _) => x | _ => .non
def keyOf (d : D) : Key := (keyD (fst0 d)).getD (.inl 0)
def distinctB (rows : List D) : Bool := decide ((rows.foldl (fun a d => putKey a (keyOf d)) []).length = rows.length)
theorem atom_key {x : D} (h : atomB x = true) : keyD x = some ((keyD x).getD (.inl 0)) := by
  cases x with
  | int i => rfl
  | str s => rfl
  | _ => cases h
theorem text_key {x : D} (h : textB x = true) : keyD x = some ((keyD x).getD (.inl 0)) := by
  cases x with
  | str s => rfl
  | _ => cases h
theorem row_fst {v : D} (h : tableRowB v = true) : ∀ m, ixG v (.int 0) m = some (fst0 v) ∧ keyD (fst0 v) = some (keyOf v) := by
  intro m
  unfold tableRowB at h
  split at h
  · rw [Bool.and_eq_true] at h
    exact ⟨rfl, atom_key h.1⟩
  · cases h
def tableB (v : D) : Bool := match v with | .tup rows => rows.all tableRowB && distinctB rows | _ => false
theorem tbl_len {l rows : List D} {f : DL.F} {ε : Ev} (hf : f ε m = some (.tup rows, m)) : fApp lenG (f1 f) ε m = some (.int (rows.length : Nat), m) := x_app1 hf rfl
theorem sm_scan {n : Nat} (h : n ≤ 1000) : n < scanBound := Nat.lt_of_le_of_lt h (by decide)
theorem ev_table_term {n : Nat} (h : 6 ≤ n) (hs : smsD l = true) : F n .is_table_term [.tup l, .int d] m = some (.bl (decide (l.length = 2) && tableB (a1 l)), m) := by
  obtain ⟨j, rfl, hj⟩ := pred h
  refine Fr_is_table_term ?_
  have t1 := x_t (x_bin (len_tup (i := 0) (ε := [some (.tup l), some (.int d), none]) (m := m) rfl) (b := .int 2) (fb := fC (.int 2)) rfl (ne_len2 l m))
  by_cases hl : l.length = 2
  · have e1 : ∀ (z : Option D), fBin ixG (fV 0) (fC (.int 1)) [some (.tup l), some (.int d), z] m = some (a1 l, m) := fun z => x_bin rfl rfl (ix_1 (.inl hl) m)
    have t1' := bt t1 (y := false) (by simp [hl])
    have s1 := sm_1 hs
    have t2 := x_notT (x_tru (x_call1 (e1 none) (ev_tuple (n := j) (by omega) (a1 l) m)))
    cases ha : a1 l with
    | tup rows =>
      rw [ha] at e1 s1 t2
      have hr := sm_tup s1
      have t3 : fNotT (fTru (fApp allG (f1 (fLc (fItems (fBin ixG (fV 0) (fC (.int 1)))) (DL.stN 2) fYes (fCall (F j .is_table_row) (faCons (fV 2) faNil)) [2])))) [some (.tup l), some (.int d), none] m = some (!rows.all tableRowB, m) :=
        x_notT (x_tru (all_run (x_items (e1 none) rfl) (fun r hr' => x_call1 rfl (ev_table_row (by omega) r (smsD_mem hr.2 hr'))) (sz1000' hr.1)))
      refine bs (x_guard (x_orTF t1' (x_orTF t2 t3)) fun hx => x_ret (x_bin (lenSc_run (key := keyOf) (g := fst0) (x_items (e1 none) rfl) (fun r hr' => ?_) (sm_scan hr.1)) (tbl_len (l := l) (e1 none)) (eqG_int _ _ _))) ?_
      · have hx2 : rows.all tableRowB = true := by simpa using hx
        have := row_fst (List.all_eq_true.mp hx2 r hr') m
        exact ⟨x_bin rfl rfl this.1, this.2⟩
      · simp only [hl, tableB, distinctB, decide_true, Bool.true_and, Bool.not_not]
        congr 1
        exact decide_eq_decide.mpr ⟨fun h => by omega, fun h => by omega⟩
    | _ =>
      rw [ha] at t2
      exact (x_seqR (x_ifT (x_orTF t1' (x_orTT t2)) rfl)).trans (by simp [tableB])
  · exact (x_seqR (x_ifT (x_orTT (bt t1 (y := true) (by simp [hl]))) rfl)).trans (by simp [hl])
def machRowB (k : Nat) : D → Bool | .tup [x, y, z] => bitsB z 1 4 && (withinB x 0 ((k : Int) - 1) && withinB y 0 ((k : Int) - 1)) | _ => false
theorem ev_machine_row {n : Nat} (h : 4 ≤ n) (v : D) (hs : smD v = true) (k : Nat) : F n .is_machine_row [v, .int k] m = some (.bl (machRowB k v), m) := by
  obtain ⟨j, rfl, hj⟩ := pred h
  refine Fr_is_machine_row ?_
  have t1 := x_notT (x_tru (x_call2 (fa := fV 0) (fb := fC (.int 3)) (ε := [some v, some (.int k)]) (m := m) rfl rfl (ev_tuple_of (n := j) (by omega) v 3 m)))
  cases hv : tupB v 3 with
  | false =>
    rw [hv] at t1
    refine (x_seqR (x_ifT (x_orTT t1) rfl)).trans ?_
    have : machRowB k v = false := by
      unfold machRowB
      split
      · cases hv
      · rfl
    rw [this]
  | true =>
    rw [hv] at t1
    obtain ⟨x, y, z, rfl⟩ := tupB3 hv
    have h2 := (sm_tup hs).2
    refine bs (x_guard (x_orTF t1 (x_notT (x_tru (x_call3 (x_bin rfl rfl rfl) rfl rfl (ev_bits_of hj z (smsD_mem h2 (by simp)) 1 4 m))))) fun _ => x_ret (x_and (x_call3 (x_bin rfl rfl rfl) rfl (x_bin rfl rfl rfl) (ev_within (by omega) x _ _ _)) fun _ => x_call3 (x_bin rfl rfl rfl) rfl (x_bin rfl rfl rfl) (ev_within (by omega) y _ _ _))) ?_
    simp [machRowB]
def ckLen : D → Int | .tup [_, _, .str s] => s.length | _ => 0
def machB (v : D) : Bool := match v with | .tup rows => (decide ((1 : Int) ≤ rows.length) && decide ((rows.length : Int) ≤ 8)) && (rows.all (machRowB rows.length) && rows.all fun r => decide (ckLen r = ckLen (rows.headD .non))) | _ => false
theorem mach_len {k : Nat} {v : D} (h : machRowB k v = true) (hs : smD v = true) : ∃ x y s, v = .tup [x, y, .str s] ∧ s.length ≤ 1000 := by
  unfold machRowB at h
  split at h
  · rename_i x y z
    cases z with
    | str s => exact ⟨x, y, s, rfl, sm_str (smsD_mem (sm_tup hs).2 (by simp))⟩
    | _ => cases h
  · cases h
theorem ev_machine {n : Nat} (h : 5 ≤ n) (v : D) (hs : smD v = true) : F n .is_machine [v] m = some (.bl (machB v), m) := by
  obtain ⟨j, rfl, hj⟩ := pred h
  refine Fr_is_machine ?_
  have t1 := x_notT (x_tru (x_call1 (fa := fV 0) (ε := [some v, none]) (m := m) rfl (ev_tuple (n := j) (by omega) v m)))
  cases v with
  | tup rows =>
    have hr := sm_tup hs
    have t2 := x_notT (x_t (chain_le 1 rows.length 8 [some (.tup rows), none] m (fC (.int 1)) (fApp lenG (f1 (fV 0))) (fC (.int 8)) rfl (len_tup rfl) rfl))
    refine bs (x_guard (x_orTF t1 t2) fun hx => x_guard (x_notT (x_tru (all_run (p := machRowB rows.length) (x_items rfl rfl) (fun r hr' => x_call2 rfl (len_tup rfl) (ev_machine_row hj r (smsD_mem hr.2 hr') _)) (sz1000' hr.1)))) fun hy => x_ret (all_run (p := fun r => decide (ckLen r = ckLen (rows.headD .non))) (x_items rfl rfl) (fun r hr' => ?_) (sz1000' hr.1))) ?_
    · have hy2 : rows.all (machRowB rows.length) = true := by simpa using hy
      obtain ⟨x, y, s, rfl, hl⟩ := mach_len (List.all_eq_true.mp hy2 r hr') (smsD_mem hr.2 hr')
      cases rows with
      | nil => cases hr'
      | cons r0 rest =>
        obtain ⟨x0, y0, s0, rfl, hl0⟩ := mach_len (List.all_eq_true.mp hy2 r0 List.mem_cons_self) (smsD_mem hr.2 List.mem_cons_self)
        refine x_bin (x_app1 (a := .str s) (x_bin rfl rfl rfl) (by simp only [lenG, if_pos (sz1000 hl)]; rfl)) (x_app1 (a := .str s0) (x_bin (x_bin rfl rfl (ix_0 _ _ _)) rfl rfl) (by simp only [lenG, if_pos (sz1000 hl0)]; rfl)) (eqG_int _ _ _)
    · simp [machB]
  | _ => exact (x_seqR (x_ifT (x_orTT t1) rfl)).trans rfl
/-! ### the terms -/
def wayB (tw : D → Bool) : D → Bool | .tup [x, y, z] => textB x && (bitsB y 0 400 && tw z) | _ => false
def listB (p : D → Bool) (v : D) : Bool := match v with | .tup ts => ts.all p | _ => false
def eitherB (tw : D → Bool) (v : D) : Bool := match v with | .tup ws => ws.all (wayB tw) && distinctB ws | _ => false
def tw : Nat → D → Bool
  | 0, _ => false
  | k + 1, .tup (.str w :: x :: r) => (match formId w with
    | some .is_bits_term => decide ((.str w :: x :: r : List D).length = 2) && bitsB x 0 400
    | some .is_table_term => decide ((.str w :: x :: r : List D).length = 2) && tableB x
    | some .is_width_term => decide ((.str w :: x :: r : List D).length = 2) && withinB x 0 8
    | some .is_row_term => decide ((.str w :: x :: r : List D).length = 2) && listB (tw k) x
    | some .is_either_term => decide ((.str w :: x :: r : List D).length = 2) && eitherB (tw k) x
    | some .is_times_term => decide ((.str w :: x :: r : List D).length = 3) && (withinB x 0 8 && tw k (a2 (.str w :: x :: r)))
    | some .is_two_part_term => decide ((.str w :: x :: r : List D).length = 3) && (tw k x && tw k (a2 (.str w :: x :: r)))
    | some .is_until_term => decide ((.str w :: x :: r : List D).length = 3) && (bitsB x 1 6 && tw k (a2 (.str w :: x :: r)))
    | some .is_checked_term => decide ((.str w :: x :: r : List D).length = 3) && (machB x && tw k (a2 (.str w :: x :: r)))
    | some .is_ref_term => decide ((.str w :: x :: r : List D).length = 2) && nameB x
    | _ => false)
  | _ + 1, _ => false
def EvT (n k : Nat) : Prop := ∀ (v : D) (m : M), smD v = true → F n .is_term_within [v, .int k] m = some (.bl (tw k v), m)
section
variable {n k : Nat} {l : List D} {m : M}
theorem dec_k {j : Nat} : (subG (.int ((k + 1 : Nat) : Int)) (.int 1) m) = some (.int (k : Int)) := by
  show some (D.int (((k + 1 : Nat) : Int) - 1)) = _
  congr 2; omega
theorem ev_row_term (h : 3 ≤ n) (H : EvT n k) (hs : smsD l = true) : F (n + 1) .is_row_term [.tup l, .int ((k + 1 : Nat) : Int)] m = some (.bl (decide (l.length = 2) && listB (tw k) (a1 l)), m) := by
  refine Fr_is_row_term ?_
  have t1 := x_t (x_bin (len_tup (i := 0) (ε := [some (.tup l), some (.int ((k + 1 : Nat) : Int)), none]) (m := m) rfl) (b := .int 2) (fb := fC (.int 2)) rfl (ne_len2 l m))
  by_cases hl : l.length = 2
  · have e1 : ∀ (z : Option D), fBin ixG (fV 0) (fC (.int 1)) [some (.tup l), some (.int ((k + 1 : Nat) : Int)), z] m = some (a1 l, m) := fun z => x_bin rfl rfl (ix_1 (.inl hl) m)
    have t1' := bt t1 (y := false) (by simp [hl])
    have s1 := sm_1 hs
    have t2 := x_notT (x_tru (x_call1 (e1 none) (ev_tuple (n := n) (by omega) (a1 l) m)))
    cases ha : a1 l with
    | tup ts =>
      rw [ha] at e1 s1 t2
      have hr := sm_tup s1
      refine bs (x_guard (x_orTF t1' t2) fun _ => x_ret (all_run (p := tw k) (x_items (e1 none) rfl) (fun t ht => x_call2 rfl (x_bin rfl rfl (dec_k (j := 0))) (H t m (smsD_mem hr.2 ht))) (sz1000' hr.1))) ?_
      simp [hl, listB, isT]
    | _ =>
      rw [ha] at t2
      exact (x_seqR (x_ifT (x_orTF t1' t2) rfl)).trans (by simp [listB])
  · exact (x_seqR (x_ifT (x_orTT (bt t1 (y := true) (by simp [hl]))) rfl)).trans (by simp [hl])
theorem ev_way (h : 3 ≤ n) (H : EvT n k) (v : D) (hs : smD v = true) : F (n + 1) .is_way [v, .int k] m = some (.bl (wayB (tw k) v), m) := by
  refine Fr_is_way ?_
  have t1 := x_notT (x_tru (x_call2 (fa := fV 0) (fb := fC (.int 3)) (ε := [some v, some (.int k)]) (m := m) rfl rfl (ev_tuple_of (n := n) (by omega) v 3 m)))
  cases hv : tupB v 3 with
  | false =>
    rw [hv] at t1
    refine (x_seqR (x_ifT (x_orTT t1) rfl)).trans ?_
    have : wayB (tw k) v = false := by
      unfold wayB
      split
      · cases hv
      · rfl
    rw [this]
  | true =>
    rw [hv] at t1
    obtain ⟨x, y, z, rfl⟩ := tupB3 hv
    have h2 := (sm_tup hs).2
    refine bs (x_guard (x_orTF t1 (x_orT (x_notT (x_tru (x_call1 (x_bin rfl rfl rfl) (ev_text (by omega) x (smsD_mem h2 (by simp)) m)))) fun _ => x_notT (x_tru (x_call3 (x_bin rfl rfl rfl) rfl rfl (ev_bits_of h y (smsD_mem h2 (by simp)) 0 400 m))))) fun _ => x_ret (x_call2 (x_bin rfl rfl rfl) rfl (H z m (smsD_mem h2 (by simp))))) ?_
    simp [wayB, Bool.and_assoc]
theorem way_fst {v : D} (h : wayB (tw k) v = true) : ∀ m, ixG v (.int 0) m = some (fst0 v) ∧ keyD (fst0 v) = some (keyOf v) := by
  intro m
  unfold wayB at h
  split at h
  · rw [Bool.and_eq_true] at h
    exact ⟨rfl, text_key h.1⟩
  · cases h
theorem ev_either_term (h : 3 ≤ n) (H : EvT n k) (hs : smsD l = true) : F (n + 2) .is_either_term [.tup l, .int ((k + 1 : Nat) : Int)] m = some (.bl (decide (l.length = 2) && eitherB (tw k) (a1 l)), m) := by
  refine Fr_is_either_term ?_
  have t1 := x_t (x_bin (len_tup (i := 0) (ε := [some (.tup l), some (.int ((k + 1 : Nat) : Int)), none]) (m := m) rfl) (b := .int 2) (fb := fC (.int 2)) rfl (ne_len2 l m))
  by_cases hl : l.length = 2
  · have e1 : ∀ (z : Option D), fBin ixG (fV 0) (fC (.int 1)) [some (.tup l), some (.int ((k + 1 : Nat) : Int)), z] m = some (a1 l, m) := fun z => x_bin rfl rfl (ix_1 (.inl hl) m)
    have t1' := bt t1 (y := false) (by simp [hl])
    have s1 := sm_1 hs
    have t2 := x_notT (x_tru (x_call1 (e1 none) (ev_tuple (n := n + 1) (by omega) (a1 l) m)))
    cases ha : a1 l with
    | tup rows =>
      rw [ha] at e1 s1 t2
      have hr := sm_tup s1
      have t3 : fNotT (fTru (fApp allG (f1 (fLc (fItems (fBin ixG (fV 0) (fC (.int 1)))) (DL.stN 2) fYes (fCall (F (n + 1) .is_way) (faCons (fV 2) (faCons (fBin subG (fV 1) (fC (.int 1))) faNil))) [2])))) [some (.tup l), some (.int ((k + 1 : Nat) : Int)), none] m = some (!rows.all (wayB (tw k)), m) :=
        x_notT (x_tru (all_run (x_items (e1 none) rfl) (fun r hr' => x_call2 rfl (x_bin rfl rfl (dec_k (j := 0))) (ev_way h H r (smsD_mem hr.2 hr'))) (sz1000' hr.1)))
      refine bs (x_guard (x_orTF t1' (x_orTF t2 t3)) fun hx => x_ret (x_bin (lenSc_run (key := keyOf) (g := fst0) (x_items (e1 none) rfl) (fun r hr' => ?_) (sm_scan hr.1)) (tbl_len (l := l) (e1 none)) (eqG_int _ _ _))) ?_
      · have hx2 : rows.all (wayB (tw k)) = true := by simpa using hx
        have := way_fst (List.all_eq_true.mp hx2 r hr') m
        exact ⟨x_bin rfl rfl this.1, this.2⟩
      · simp only [hl, eitherB, distinctB, decide_true, Bool.true_and, Bool.not_not]
        congr 1
        exact decide_eq_decide.mpr ⟨fun h => by omega, fun h => by omega⟩
    | _ =>
      rw [ha] at t2
      exact (x_seqR (x_ifT (x_orTF t1' (x_orTT t2)) rfl)).trans (by simp [eitherB])
  · exact (x_seqR (x_ifT (x_orTT (bt t1 (y := true) (by simp [hl]))) rfl)).trans (by simp [hl])
theorem ev_times_term (h : 3 ≤ n) (H : EvT n k) (hs : smsD l = true) : F (n + 1) .is_times_term [.tup l, .int ((k + 1 : Nat) : Int)] m = some (.bl (decide (l.length = 3) && (withinB (a1 l) 0 8 && tw k (a2 l))), m) := by
  refine Fr_is_times_term (x_ret (x_and (x_bin (len_tup rfl) rfl (eq_len3 l m)) fun hl => ?_))
  have hl := of_decide_eq_true hl
  exact x_and (x_call3 (x_bin rfl rfl (ix_1 (.inr hl) m)) rfl rfl (ev_within (by omega) _ _ _ _)) fun _ => x_call2 (x_bin rfl rfl (ix_2 hl m)) (x_bin rfl rfl (dec_k (j := 0))) (H _ m (sm_2 hs))
theorem ev_two_part_term (h : 3 ≤ n) (H : EvT n k) (hs : smsD l = true) : F (n + 1) .is_two_part_term [.tup l, .int ((k + 1 : Nat) : Int)] m = some (.bl (decide (l.length = 3) && (tw k (a1 l) && tw k (a2 l))), m) := by
  refine Fr_is_two_part_term (x_ret (x_and (x_bin (len_tup rfl) rfl (eq_len3 l m)) fun hl => ?_))
  have hl := of_decide_eq_true hl
  exact x_and (x_call2 (x_bin rfl rfl (ix_1 (.inr hl) m)) (x_bin rfl rfl (dec_k (j := 0))) (H _ m (sm_1 hs))) fun _ => x_call2 (x_bin rfl rfl (ix_2 hl m)) (x_bin rfl rfl (dec_k (j := 0))) (H _ m (sm_2 hs))
theorem ev_until_term (h : 3 ≤ n) (H : EvT n k) (hs : smsD l = true) : F (n + 1) .is_until_term [.tup l, .int ((k + 1 : Nat) : Int)] m = some (.bl (decide (l.length = 3) && (bitsB (a1 l) 1 6 && tw k (a2 l))), m) := by
  refine Fr_is_until_term (x_ret (x_and (x_bin (len_tup rfl) rfl (eq_len3 l m)) fun hl => ?_))
  have hl := of_decide_eq_true hl
  exact x_and (x_call3 (x_bin rfl rfl (ix_1 (.inr hl) m)) rfl rfl (ev_bits_of h _ (sm_1 hs) _ _ _)) fun _ => x_call2 (x_bin rfl rfl (ix_2 hl m)) (x_bin rfl rfl (dec_k (j := 0))) (H _ m (sm_2 hs))
theorem ev_checked_term (h : 5 ≤ n) (H : EvT n k) (hs : smsD l = true) : F (n + 1) .is_checked_term [.tup l, .int ((k + 1 : Nat) : Int)] m = some (.bl (decide (l.length = 3) && (machB (a1 l) && tw k (a2 l))), m) := by
  refine Fr_is_checked_term (x_ret (x_and (x_bin (len_tup rfl) rfl (eq_len3 l m)) fun hl => ?_))
  have hl := of_decide_eq_true hl
  exact x_and (x_call1 (x_bin rfl rfl (ix_1 (.inr hl) m)) (ev_machine h _ (sm_1 hs))) fun _ => x_call2 (x_bin rfl rfl (ix_2 hl m)) (x_bin rfl rfl (dec_k (j := 0))) (H _ m (sm_2 hs))
end
theorem ev_machine_term : True := trivial
end
end KK
end
section
set_option Elab.async false
set_option linter.all false
set_option maxRecDepth 100000
namespace KK
open PySem PySem.Spec PyProof.Rows L2 DL
theorem formId_cases (w : Str) : formId w = none ∨ formId w = some .is_bits_term ∨ formId w = some .is_table_term ∨ formId w = some .is_width_term ∨ formId w = some .is_row_term ∨ formId w = some .is_either_term ∨ formId w = some .is_times_term ∨ formId w = some .is_two_part_term ∨ formId w = some .is_until_term ∨ formId w = some .is_checked_term ∨ formId w = some .is_ref_term := by
  unfold formId
  (repeat' split) <;> simp
theorem tail_some {c : Fid → FD} {w : Str} {i : Fid} {r : List D} {d : D} {z : Option D} {m : M} {b : Bool} (hf : formId w = some i) (h : c i [.tup (.str w :: r), d] m = some (.bl b, m)) : formTail c [some (.tup (.str w :: r)), some d, z] m = some (.rt (.bl b) m) := by
  unfold formTail
  rw [if_pos (by rfl)]
  show ((ixG (.tup (.str w :: r)) (.int 0) m).bind fun z => match z with
    | .str z => (match formId z with | some i => (c i [.tup (.str w :: r), d] m).map fun p => Out.rt p.1 p.2 | none => some (.rt (.bl false) m))
    | _ => none) = _
  rw [ix_0]
  simp only [Option.bind_some, hf, h, Option.map_some]
theorem tail_none {c : Fid → FD} {w : Str} {r : List D} {d : D} {z : Option D} {m : M} (hf : formId w = none) : formTail c [some (.tup (.str w :: r)), some d, z] m = some (.rt (.bl false) m) := by
  unfold formTail
  rw [if_pos (by rfl)]
  show ((ixG (.tup (.str w :: r)) (.int 0) m).bind fun z => match z with
    | .str z => (match formId z with | some i => (c i [.tup (.str w :: r), d] m).map fun p => Out.rt p.1 p.2 | none => some (.rt (.bl false) m))
    | _ => none) = _
  rw [ix_0]
  simp only [Option.bind_some, hf]
theorem lt1 (k : Nat) (m : M) : ltG (.int ((k + 1 : Nat) : Int)) (.int 1) m = some (.bl false) := by
  show some (D.bl (decide (((k + 1 : Nat) : Int) < 1))) = _
  rw [decide_eq_false (by omega)]
theorem ev_tw : ∀ (k n : Nat), 3 * k + 8 ≤ n → EvT n k
  | 0, n, h => fun v m hs => by
    obtain ⟨j, rfl, hj⟩ := pred (k := 7) (by omega)
    exact Fr_is_term_within (x_seqR (x_ifT (x_orTT (x_t (x_bin rfl rfl rfl))) rfl))
  | k + 1, n, h => fun v m hs => by
    obtain ⟨j, rfl, hj⟩ := pred (k := 3 * k + 10) (by omega)
    obtain ⟨j1, rfl, hj1⟩ := pred (k := 3 * k + 9) hj
    obtain ⟨j2, rfl, hj2⟩ := pred (k := 3 * k + 8) hj1
    have H1 : EvT (j2 + 1) k := ev_tw k (j2 + 1) (by omega)
    have H2 : EvT j2 k := ev_tw k j2 (by omega)
    refine Fr_is_term_within ?_
    have t1 : fT (fBin ltG (fV 1) (fC (.int 1))) [some v, some (.int ((k + 1 : Nat) : Int)), none] m = some (false, m) := x_t (x_bin rfl rfl (lt1 k m))
    have t2 := x_notT (x_tru (x_call1 (fa := fV 0) (ε := [some v, some (.int ((k + 1 : Nat) : Int)), none]) (m := m) rfl (ev_tuple (n := j2 + 1 + 1) (by omega) v m)))
    cases v with
    | tup l =>
      have hl := (sm_tup hs).2
      have t3 : fT (fBin ltG (fApp lenG (f1 (fV 0))) (fC (.int 2))) [some (.tup l), some (.int ((k + 1 : Nat) : Int)), none] m = some (decide ((l.length : Int) < 2), m) := x_t (x_bin (len_tup rfl) rfl rfl)
      match l, hs, hl, t2, t3 with
      | [], hs, hl, t2, t3 => exact x_seqR (x_ifT (x_orTF t1 (x_orTF t2 (x_orTT t3))) rfl)
      | [x], hs, hl, t2, t3 => exact (x_seqR (x_ifT (x_orTF t1 (x_orTF t2 (x_orTT (bt t3 (by simp))))) rfl)).trans (by simp [tw])
      | x :: y :: r, hs, hl, t2, t3 =>
        have t3' := bt t3 (y := false) (by simp; omega)
        have t4 : fNotT (fTru (fCall (F (j2 + 1 + 1) .is_string) (faCons (fBin ixG (fV 0) (fC (.int 0))) faNil))) [some (.tup (x :: y :: r)), some (.int ((k + 1 : Nat) : Int)), none] m = some (!isS x, m) := x_notT (x_tru (x_call1 (x_bin rfl rfl (ix_0 _ _ _)) (ev_string (by omega) x m)))
        cases x with
        | str w =>
          refine x_seq (x_ifF (x_orTF t1 (x_orTF t2 (x_orTF t3' t4))) rfl) ?_
          rcases formId_cases w with e | e | e | e | e | e | e | e | e | e | e
          · exact (tail_none e).trans (by simp [tw, e])
          · exact (tail_some e (ev_bits_term (by omega) hl)).trans (by simp [tw, e, a1])
          · exact (tail_some e (ev_table_term (by omega) hl)).trans (by simp [tw, e, a1])
          · exact (tail_some e (ev_width_term (by omega) hl)).trans (by simp [tw, e, a1])
          · exact (tail_some e (ev_row_term (by omega) H1 hl)).trans (by simp [tw, e, a1])
          · exact (tail_some e (ev_either_term (by omega) H2 hl)).trans (by simp [tw, e, a1])
          · exact (tail_some e (ev_times_term (by omega) H1 hl)).trans (by simp [tw, e, a1])
          · exact (tail_some e (ev_two_part_term (by omega) H1 hl)).trans (by simp [tw, e, a1])
          · exact (tail_some e (ev_until_term (by omega) H1 hl)).trans (by simp [tw, e, a1])
          · exact (tail_some e (ev_checked_term (by omega) H1 hl)).trans (by simp [tw, e, a1])
          · exact (tail_some e (ev_ref_term (by omega) hl)).trans (by simp [tw, e, a1])
        | _ => exact (x_seqR (x_ifT (x_orTF t1 (x_orTF t2 (x_orTF t3' t4))) rfl)).trans (by simp [tw])
    | _ => exact (x_seqR (x_ifT (x_orTF t1 (x_orTT t2)) rfl)).trans (by simp [tw])
theorem ev_any_term {n : Nat} (h : 45 ≤ n) (v : D) (hs : smD v = true) (m : M) : F n .is_any_term [v] m = some (.bl (tw 12 v), m) := by
  obtain ⟨j, rfl, hj⟩ := pred h
  exact Fr_is_any_term (x_ret (x_call2 rfl rfl (ev_tw 12 j (by omega) v m hs)))
theorem ev_term {n : Nat} (h : 46 ≤ n) (v : D) (hs : smD v = true) (m : M) : F n .is_term [v] m = some (.bl (tw 12 v), m) := by
  obtain ⟨j, rfl, hj⟩ := pred h
  exact Fr_is_term (x_ret (x_call1 rfl (ev_any_term hj v hs m)))
def entryB : D → Bool | .tup [x, y] => nameB x && tw 12 y | _ => false
theorem ev_entry {n : Nat} (h : 46 ≤ n) (v : D) (hs : smD v = true) (m : M) : F n .is_entry [v] m = some (.bl (entryB v), m) := by
  obtain ⟨j, rfl, hj⟩ := pred h
  refine Fr_is_entry (x_ret ?_)
  cases hv : tupB v 2 with
  | false =>
    have : entryB v = false := by
      unfold entryB
      split
      · cases hv
      · rfl
    rw [this]
    exact x_andF (bf (x_call2 rfl rfl (ev_tuple_of (by omega) v 2 m)) hv)
  | true =>
    obtain ⟨x, y, rfl⟩ := tupB2 hv
    have h2 := (sm_tup hs).2
    exact x_andG (bf (x_call2 rfl rfl (ev_tuple_of (by omega) _ 2 m)) hv) (x_and (x_call1 (x_bin rfl rfl rfl) (ev_name (by omega) _ (smsD_mem h2 (by simp)) _)) fun _ => x_call1 (x_bin rfl rfl rfl) (ev_any_term hj _ (smsD_mem h2 (by simp)) _))
end KK
end
section
set_option Elab.async false
set_option linter.all false
set_option maxRecDepth 100000
namespace KK
open PySem PySem.Spec PyProof.Rows L2 DL
/-! ### the shape of terms -/
inductive Tm : Nat → D → Prop
  | leaf {k : Nat} {w : Str} {x : D} : (w = "bits" ∨ w = "table" ∨ w = "width") → Tm (k + 1) (.tup [.str w, x])
  | ref {k : Nat} {nm : Str} : Tm (k + 1) (.tup [.str "ref", .str nm])
  | row {k : Nat} {ts : List D} : (∀ t ∈ ts, Tm k t) → Tm (k + 1) (.tup [.str "row", .tup ts])
  | either {k : Nat} {zs : List (D × D × D)} : (∀ p ∈ zs, Tm k p.2.2) → Tm (k + 1) (.tup [.str "either", .tup (zs.map fun p => .tup [p.1, p.2.1, p.2.2])])
  | two {k : Nat} {w : Str} {x y : D} : (w = "counted" ∨ w = "sized") → Tm k x → Tm k y → Tm (k + 1) (.tup [.str w, x, y])
  | one {k : Nat} {w : Str} {x y : D} : (w = "times" ∨ w = "until" ∨ w = "checked") → Tm k y → Tm (k + 1) (.tup [.str w, x, y])
theorem fm_bits {w : Str} (h : formId w = some .is_bits_term) : w = "bits" := by
  unfold formId at h; (repeat' split at h) <;> first | assumption | cases h
theorem fm_table {w : Str} (h : formId w = some .is_table_term) : w = "table" := by
  unfold formId at h; (repeat' split at h) <;> first | assumption | cases h
theorem fm_width {w : Str} (h : formId w = some .is_width_term) : w = "width" := by
  unfold formId at h; (repeat' split at h) <;> first | assumption | cases h
theorem fm_row {w : Str} (h : formId w = some .is_row_term) : w = "row" := by
  unfold formId at h; (repeat' split at h) <;> first | assumption | cases h
theorem fm_either {w : Str} (h : formId w = some .is_either_term) : w = "either" := by
  unfold formId at h; (repeat' split at h) <;> first | assumption | cases h
theorem fm_times {w : Str} (h : formId w = some .is_times_term) : w = "times" := by
  unfold formId at h; (repeat' split at h) <;> first | assumption | cases h
theorem fm_until {w : Str} (h : formId w = some .is_until_term) : w = "until" := by
  unfold formId at h; (repeat' split at h) <;> first | assumption | cases h
theorem fm_checked {w : Str} (h : formId w = some .is_checked_term) : w = "checked" := by
  unfold formId at h; (repeat' split at h) <;> first | assumption | cases h
theorem fm_ref {w : Str} (h : formId w = some .is_ref_term) : w = "ref" := by
  unfold formId at h; (repeat' split at h) <;> first | assumption | cases h
theorem fm_two {w : Str} (h : formId w = some .is_two_part_term) : w = "counted" ∨ w = "sized" := by
  unfold formId at h; (repeat' split at h) <;> first | (left; assumption) | (right; assumption) | cases h
theorem len2' {a b : D} {r : List D} (h : (a :: b :: r : List D).length = 2) : r = [] := by
  cases r with
  | nil => rfl
  | cons c r => simp at h
theorem len3' {a b : D} {r : List D} (h : (a :: b :: r : List D).length = 3) : ∃ c, r = [c] := by
  match r, h with
  | [c], _ => exact ⟨c, rfl⟩
theorem ways_split {p : D → Bool} : ∀ {ws : List D}, (∀ w ∈ ws, wayB p w = true) → ∃ zs : List (D × D × D), ws = zs.map (fun q => D.tup [q.1, q.2.1, q.2.2]) ∧ ∀ q ∈ zs, p q.2.2 = true
  | [], _ => ⟨[], rfl, by simp⟩
  | w :: r, h => by
    obtain ⟨zs, e, hz⟩ := ways_split (ws := r) fun x hx => h x (List.mem_cons_of_mem _ hx)
    have hw := h w List.mem_cons_self
    unfold wayB at hw
    split at hw
    · rename_i x y z
      rw [Bool.and_eq_true, Bool.and_eq_true] at hw
      refine ⟨(x, y, z) :: zs, by rw [e]; rfl, fun q hq => ?_⟩
      rcases List.mem_cons.mp hq with rfl | hq
      · exact hw.2.2
      · exact hz q hq
    · cases hw
theorem tm_of : ∀ {k : Nat} {t : D}, tw k t = true → Tm k t
  | 0, t, h => by cases h
  | k + 1, t, h => by
    unfold tw at h
    split at h
    · cases h
    · rename_i k' w x r heq
      cases heq
      split at h
      · rename_i e
        rw [Bool.and_eq_true] at h
        cases len2' (of_decide_eq_true h.1)
        exact .leaf (.inl (fm_bits e))
      · rename_i e
        rw [Bool.and_eq_true] at h
        cases len2' (of_decide_eq_true h.1)
        exact .leaf (.inr (.inl (fm_table e)))
      · rename_i e
        rw [Bool.and_eq_true] at h
        cases len2' (of_decide_eq_true h.1)
        exact .leaf (.inr (.inr (fm_width e)))
      · rename_i e
        rw [Bool.and_eq_true] at h
        cases len2' (of_decide_eq_true h.1)
        cases fm_row e
        cases x with
        | tup ts => exact .row fun t ht => tm_of (List.all_eq_true.mp h.2 t ht)
        | _ => cases h.2
      · rename_i e
        rw [Bool.and_eq_true] at h
        cases len2' (of_decide_eq_true h.1)
        cases fm_either e
        cases x with
        | tup ws =>
          have h2 : (ws.all (wayB (tw k)) && distinctB ws) = true := h.2
          rw [Bool.and_eq_true] at h2
          obtain ⟨zs, rfl, hz⟩ := ways_split (List.all_eq_true.mp h2.1)
          exact .either fun q hq => tm_of (hz q hq)
        | _ => cases h.2
      · rename_i e
        rw [Bool.and_eq_true, Bool.and_eq_true] at h
        obtain ⟨c, rfl⟩ := len3' (of_decide_eq_true h.1)
        exact .one (.inl (fm_times e)) (tm_of h.2.2)
      · rename_i e
        rw [Bool.and_eq_true, Bool.and_eq_true] at h
        obtain ⟨c, rfl⟩ := len3' (of_decide_eq_true h.1)
        exact .two (fm_two e) (tm_of h.2.1) (tm_of h.2.2)
      · rename_i e
        rw [Bool.and_eq_true, Bool.and_eq_true] at h
        obtain ⟨c, rfl⟩ := len3' (of_decide_eq_true h.1)
        exact .one (.inr (.inl (fm_until e))) (tm_of h.2.2)
      · rename_i e
        rw [Bool.and_eq_true, Bool.and_eq_true] at h
        obtain ⟨c, rfl⟩ := len3' (of_decide_eq_true h.1)
        exact .one (.inr (.inr (fm_checked e))) (tm_of h.2.2)
      · rename_i e
        rw [Bool.and_eq_true] at h
        cases len2' (of_decide_eq_true h.1)
        cases fm_ref e
        cases x with
        | str nm => exact .ref
        | _ => cases h.2
      · cases h
    · cases h
def third : D → D | .tup [_, _, z] => z | _ => .non
def partsD : D → List D
  | .tup (.str w :: x :: r) => (match formId w with
    | some .is_row_term => (match x with | .tup ts => ts | _ => [])
    | some .is_either_term => (match x with | .tup ws => ws.map third | _ => [])
    | some .is_two_part_term => [x, r.headD .non]
    | some .is_times_term => [r.headD .non]
    | some .is_until_term => [r.headD .non]
    | some .is_checked_term => [r.headD .non]
    | _ => [])
  | _ => []
theorem pd_row (ts : List D) : partsD (.tup [.str "row", .tup ts]) = ts := rfl
theorem pd_either (zs : List (D × D × D)) : partsD (.tup [.str "either", .tup (zs.map fun p => .tup [p.1, p.2.1, p.2.2])]) = zs.map fun p => p.2.2 := by
  show (zs.map fun p => D.tup [p.1, p.2.1, p.2.2]).map third = _
  rw [List.map_map]; rfl
theorem pd_two {w : Str} (x y : D) (hw : w = "counted" ∨ w = "sized") : partsD (.tup [.str w, x, y]) = [x, y] := by rcases hw with rfl | rfl <;> rfl
theorem pd_one {w : Str} (x y : D) (hw : w = "times" ∨ w = "until" ∨ w = "checked") : partsD (.tup [.str w, x, y]) = [y] := by rcases hw with rfl | rfl | rfl <;> rfl
theorem pd_leaf {w : Str} (x : D) (hw : w = "bits" ∨ w = "table" ∨ w = "width") : partsD (.tup [.str w, x]) = [] := by rcases hw with rfl | rfl | rfl <;> rfl
theorem tm_parts : ∀ {k : Nat} {t : D}, Tm (k + 1) t → ∀ p ∈ partsD t, Tm k p
  | k, _, .leaf hw, p, hp => by rcases hw with rfl | rfl | rfl <;> cases hp
  | k, _, .ref, p, hp => by cases hp
  | k, _, .row h, p, hp => h p hp
  | k, _, .either h, p, hp => by
    rw [pd_either] at hp
    obtain ⟨q, hq, rfl⟩ := List.mem_map.mp hp
    exact h q hq
  | k, _, .two hw hx hy, p, hp => by
    rw [pd_two _ _ hw] at hp
    simp at hp
    rcases hp with rfl | rfl
    · exact hx
    · exact hy
  | k, _, .one hw hy, p, hp => by
    rw [pd_one _ _ hw] at hp
    simp at hp
    subst hp
    exact hy
theorem ev_parts {n k : Nat} {t : D} {m : M} (h : 1 ≤ n) (T : Tm k t) (hl : (partsD t).length < sizeLine) : F n .parts_of [t] m = some (.lst (partsD t), m) := by
  obtain ⟨j, rfl, _⟩ := pred h
  refine Fr_parts_of ?_
  cases T with
  | leaf hw => rcases hw with rfl | rfl | rfl <;> rfl
  | ref => rfl
  | row h => rfl
  | either h =>
    rename_i zs
    rw [pd_either] at hl ⊢
    refine x_seq (x_set rfl) (x_seq (x_ifF (x_t (x_bin rfl rfl rfl)) rfl) (x_seqR (x_ifT (x_t (x_bin rfl rfl rfl)) (x_ret ?_))))
    refine (fLc_run (g := third) (x_items (x_bin rfl rfl rfl) rfl) (fun d hd => ?_) (by simpa using hl)).trans ?_
    · obtain ⟨q, hq, rfl⟩ := List.mem_map.mp hd
      exact x_bin rfl rfl rfl
    · rw [List.map_map]; rfl
  | two hw hx hy => rcases hw with rfl | rfl <;> rfl
  | one hw hy => rcases hw with rfl | rfl | rfl <;> rfl
theorem ev_lparts {n k : Nat} {t : D} {m : M} (h : 1 ≤ n) (T : Tm k t) (hl : (partsD t).length < sizeLine) : F n .law_parts [t] m = some (.lst (partsD t), m) := by
  obtain ⟨j, rfl, _⟩ := pred h
  refine Fr_law_parts ?_
  cases T with
  | leaf hw => rcases hw with rfl | rfl | rfl <;> rfl
  | ref => rfl
  | row h => rfl
  | either h =>
    rename_i zs
    rw [pd_either] at hl ⊢
    refine x_seq (x_set rfl) (x_seq (x_ifF (x_t (x_bin rfl rfl rfl)) rfl) (x_seqR (x_ifT (x_t (x_bin rfl rfl rfl)) (x_ret ?_))))
    refine (fLc_run (g := third) (x_items (x_bin rfl rfl rfl) rfl) (fun d hd => ?_) (by simpa using hl)).trans ?_
    · obtain ⟨q, hq, rfl⟩ := List.mem_map.mp hd
      exact x_bin rfl rfl rfl
    · rw [List.map_map]; rfl
  | two hw hx hy => rcases hw with rfl | rfl <;> rfl
  | one hw hy => rcases hw with rfl | rfl | rfl <;> rfl
theorem lc_runG {i : Nat} {f : DL.F} {ε : Ev} {m : M} {g : D → D} : ∀ (l out : List D), (∀ d ∈ l, f (ε.set i (some d)) m = some (g d, m)) → out.length + l.length ≤ sizeLine → lcD (DL.stN i) fYes f ε l out m = some (out ++ l.map g, m)
  | [], out, _, _ => by simp [lcD]
  | d :: r, out, h, hl => by
    unfold lcD
    have hl' : out.length + (r.length + 1) ≤ sizeLine := hl
    simp only [DL.stN, fYes, Option.bind_some, if_true, h d List.mem_cons_self]
    rw [if_pos (by omega), lc_runG r (out ++ [g d]) (fun x hx => h x (List.mem_cons_of_mem _ hx)) (by rw [List.length_append]; show out.length + 1 + r.length ≤ sizeLine; omega)]
    simp
/-- two clauses; st stores the outer item, i the inner slot -/
theorem lc2_run {st : StD} {fj : FI} {i : Nat} {f : DL.F} {vs1 : List Nat} {ε : Ev} {m : M} {gs : D → List D} {g : D → D → D} : ∀ (l out : List D), (∀ d ∈ l, ∃ ε1, st d ε = some ε1 ∧ fj ε1 m = some (gs d, m) ∧ ∀ e ∈ gs d, f ((wipeE ε1 vs1).set i (some e)) m = some (g d e, m)) → out.length + (l.flatMap fun d => (gs d).map (g d)).length ≤ sizeLine →
    lc2D st fj (DL.stN i) f vs1 ε l out m = some (out ++ l.flatMap fun d => (gs d).map (g d), m)
  | [], out, _, _ => by simp [lc2D]
  | d :: r, out, h, hl => by
    obtain ⟨ε1, h1, h2, h3⟩ := h d List.mem_cons_self
    rw [List.flatMap_cons, List.length_append, List.length_map] at hl
    unfold lc2D
    rw [h1]; simp only [Option.bind_some]
    rw [h2]; simp only [Option.bind_some]
    rw [lc_runG (gs d) out h3 (by omega)]
    simp only [Option.bind_some]
    rw [lc2_run r (out ++ (gs d).map (g d)) (fun x hx => h x (List.mem_cons_of_mem _ hx)) (by rw [List.length_append, List.length_map]; omega)]
    rw [List.flatMap_cons, List.append_assoc]
theorem fLc2_run {fi : FI} {st : StD} {fj : FI} {i : Nat} {f : DL.F} {vs vs1 : List Nat} {ε : Ev} {m : M} {gs : D → List D} {g : D → D → D} {l : List D} (hi : fi ε m = some (l, m)) (h : ∀ d ∈ l, ∃ ε1, st d (wipeE ε vs) = some ε1 ∧ fj ε1 m = some (gs d, m) ∧ ∀ e ∈ gs d, f ((wipeE ε1 vs1).set i (some e)) m = some (g d e, m)) (hl : (l.flatMap fun d => (gs d).map (g d)).length ≤ sizeLine) :
    fLc2N fi st fj (DL.stN i) f vs vs1 ε m = some (l.flatMap fun d => (gs d).map (g d), m) := by
  unfold fLc2N
  rw [hi]; simp only [Option.bind_some]
  rw [lc2_run l [] h (by simpa using hl)]
  simp
theorem fLc2_lst {fi : FI} {st : StD} {fj : FI} {st1 : StD} {f : DL.F} {vs vs1 : List Nat} {ε : Ev} {m m1 : M} {l : List D} (h : fLc2N fi st fj st1 f vs vs1 ε m = some (l, m1)) : fLc2 fi st fj st1 f vs vs1 ε m = some (.lst l, m1) := by
  unfold fLc2; rw [h]; rfl
/-! ### refs -/
def refName : D → Option Str
  | .tup [.str w, .str nm] => if w = "ref" then some nm else none
  | _ => none
def refsL : Nat → D → List Str
  | 0, _ => []
  | k + 1, t => match refName t with
    | some nm => [nm]
    | none => (partsD t).flatMap (refsL k)
theorem flat_part {α : Type} {f : D → List α} {l : List D} {p : D} (hp : p ∈ l) : (f p).length ≤ (l.flatMap f).length := by
  induction l with
  | nil => cases hp
  | cons x r ih =>
    rw [List.flatMap_cons, List.length_append]
    rcases List.mem_cons.mp hp with rfl | hp
    · omega
    · have := ih hp; omega
end KK
end
section
set_option Elab.async false
set_option linter.all false
set_option maxRecDepth 100000
namespace KK
open PySem PySem.Spec PyProof.Rows L2 DL
theorem smsD_of {l : List D} (h : ∀ d ∈ l, smD d = true) : smsD l = true := by
  induction l with
  | nil => rfl
  | cons x r ih =>
    rw [smsD, Bool.and_eq_true]
    exact ⟨h x List.mem_cons_self, ih fun d hd => h d (List.mem_cons_of_mem _ hd)⟩
theorem sm_mem {l : List D} (h : smD (.tup l) = true) {d : D} (hd : d ∈ l) : smD d = true := smsD_mem (sm_tup h).2 hd
theorem sm_parts {k : Nat} {t : D} (T : Tm k t) (h : smD t = true) : (partsD t).length ≤ 1000 ∧ ∀ p ∈ partsD t, smD p = true := by
  cases T with
  | leaf hw => rw [pd_leaf _ hw]; exact ⟨by simp, fun p hp => by cases hp⟩
  | ref => exact ⟨Nat.zero_le _, fun p hp => by cases hp⟩
  | row hh =>
    rw [pd_row]
    rename_i k ts
    have := sm_mem h (d := .tup ts) (by simp)
    exact ⟨(sm_tup this).1, fun p hp => sm_mem this hp⟩
  | either hh =>
    rename_i k zs
    rw [pd_either]
    have h2 := sm_mem h (d := .tup (zs.map fun p => .tup [p.1, p.2.1, p.2.2])) (by simp)
    refine ⟨by have := (sm_tup h2).1; simpa using this, fun p hp => ?_⟩
    obtain ⟨q, hq, rfl⟩ := List.mem_map.mp hp
    have h3 := sm_mem h2 (d := .tup [q.1, q.2.1, q.2.2]) (List.mem_map.mpr ⟨q, hq, rfl⟩)
    exact sm_mem h3 (by simp)
  | two hw hx hy =>
    rw [pd_two _ _ hw]
    exact ⟨by simp, fun p hp => sm_mem h (List.mem_cons_of_mem _ hp)⟩
  | one hw hy =>
    rw [pd_one _ _ hw]
    exact ⟨by simp, fun p hp => sm_mem h (List.mem_cons_of_mem _ (List.mem_cons_of_mem _ hp))⟩
theorem refName3 (a b c : D) : refName (.tup [a, b, c]) = none := by cases a <;> cases b <;> rfl
theorem refName_not {k : Nat} {t : D} (T : Tm k t) : (∃ nm, t = .tup [.str "ref", .str nm]) ∨ (refName t = none ∧ ∃ w r, t = .tup (.str w :: r) ∧ decide (w = "ref") = false) := by
  cases T with
  | leaf hw =>
    rename_i k w x
    right
    have hw2 : decide (w = "ref") = false := by rcases hw with rfl | rfl | rfl <;> decide +kernel
    refine ⟨?_, w, _, rfl, hw2⟩
    cases x with
    | str s => show (if w = "ref" then some s else none) = none; rw [if_neg (of_decide_eq_false hw2)]
    | _ => rfl
  | ref => exact .inl ⟨_, rfl⟩
  | row hh => exact .inr ⟨rfl, _, _, rfl, by decide +kernel⟩
  | either hh => exact .inr ⟨rfl, _, _, rfl, by decide +kernel⟩
  | two hw hx hy => exact .inr ⟨refName3 _ _ _, _, _, rfl, by rcases hw with rfl | rfl <;> decide +kernel⟩
  | one hw hy => exact .inr ⟨refName3 _ _ _, _, _, rfl, by rcases hw with rfl | rfl | rfl <;> decide +kernel⟩
theorem refName_ref (nm : Str) : refName (.tup [.str "ref", .str nm]) = some nm := by
  show (if (Str.ofString "ref") = "ref" then some nm else none) = some nm
  rw [if_pos rfl]
theorem ev_refs : ∀ {k n : Nat} {t : D} {m : M}, 2 * k + 2 ≤ n → Tm k t → smD t = true → (refsL k t).length ≤ 1000 → F n .refs_of [t] m = some (.lst ((refsL k t).map .str), m)
  | 0, n, t, m, h, T, hs, hr => by cases T
  | k + 1, n, t, m, h, T, hs, hr => by
    obtain ⟨j, rfl, hj⟩ := pred (k := 2 * k + 3) (by omega)
    refine Fr_refs_of ?_
    rcases refName_not T with ⟨nm, rfl⟩ | ⟨hn, w, r, rfl, hw⟩
    · have : refsL (k + 1) (.tup [.str "ref", .str nm]) = [nm] := by unfold refsL; rw [refName_ref]
      rw [this]
      exact x_seqR (x_ifT (x_t (bf (x_bin (x_bin rfl rfl rfl) rfl (eqG_str _ _ _)) (by decide +kernel))) rfl)
    · have e : refsL (k + 1) (.tup (.str w :: r)) = (partsD (.tup (.str w :: r))).flatMap (refsL k) := by
        conv => lhs; unfold refsL
        rw [hn]
      rw [e] at hr ⊢
      have hp := sm_parts T hs
      refine x_seq (x_ifF (x_t (bf (x_bin (x_bin rfl rfl (ix_0 _ _ _)) rfl (eqG_str _ _ _)) hw)) rfl) (x_ret ?_)
      have e2 : ((partsD (.tup (.str w :: r))).flatMap fun d => ((refsL k d).map D.str).map fun x => x) = ((partsD (.tup (.str w :: r))).flatMap (refsL k)).map D.str := by
        rw [List.map_flatMap]; simp [Function.comp_def]
      rw [← e2]
      refine fLc2_lst (fLc2_run (g := fun _ x => x) (x_items (x_call1 rfl (ev_parts (by omega) T (sz1000' hp.1))) rfl) (fun d hd => ⟨_, rfl, x_items (x_call1 rfl (ev_refs (by omega) (tm_parts T d hd) (hp.2 d hd) (Nat.le_trans (flat_part hd) hr))) rfl, fun x hx => rfl⟩) ?_)
      rw [e2, List.length_map]
      exact sz1000 hr
/-! ### paths -/
def pD (q : List Int) : D := .tup (q.map .int)
def idxF (f : D → List (List Int)) : Nat → List D → List (List Int)
  | _, [] => []
  | i, p :: r => (f p).map (fun q => (i : Int) :: q) ++ idxF f (i + 1) r
def pathsL : Nat → D → List (List Int)
  | 0, _ => []
  | k + 1, t => [] :: idxF (pathsL k) 0 (partsD t)
theorem idxF_mem {f : D → List (List Int)} : ∀ {l : List D} {i : Nat} {q : List Int}, q ∈ idxF f i l → ∃ (j : Nat) (p : D) (q' : List Int), l[j]? = some p ∧ q' ∈ f p ∧ q = ((i + j : Nat) : Int) :: q'
  | [], i, q, h => by cases h
  | p :: r, i, q, h => by
    unfold idxF at h
    rcases List.mem_append.mp h with h | h
    · obtain ⟨q', hq, rfl⟩ := List.mem_map.mp h
      exact ⟨0, p, q', rfl, hq, rfl⟩
    · obtain ⟨j, p', q', h1, h2, h3⟩ := idxF_mem h
      exact ⟨j + 1, p', q', h1, h2, by rw [h3]; congr 1; congr 1; omega⟩
theorem paths_len : ∀ {k : Nat} {t : D} {q : List Int}, q ∈ pathsL k t → q.length ≤ k
  | 0, t, q, h => by cases h
  | k + 1, t, q, h => by
    unfold pathsL at h
    rcases List.mem_cons.mp h with rfl | h
    · simp
    · obtain ⟨j, p, q', _, h2, rfl⟩ := idxF_mem h
      have := paths_len h2
      simp; omega
theorem rngD_zero (lo : Int) : rngD lo 0 = [] := rfl
theorem rngD_succ (lo : Int) (n : Nat) : rngD lo (n + 1) = .int lo :: rngD (lo + 1) n := by
  unfold rngD
  rw [List.range_succ_eq_map, List.map_cons, List.map_map]
  congr 1
  · simp
  · apply List.map_congr_left
    intro a _
    simp
    omega
theorem at_app {α : Type} (pre suf : List α) (x : α) : atI (pre ++ x :: suf) ((pre.length : Nat) : Int) = some x := by
  unfold atI ixN
  rw [if_pos (by omega), if_pos (by rw [List.length_append, List.length_cons]; omega)]
  simp
def pureM (m : M) : Bool := m.all puresD
theorem fnD_own {np n : Nat} {body : FS} {ds : List D} {ε : Ev} {m : M} {l : List D} (h : ds.length = np) (he : ds.map some ++ List.replicate (n - np) none = ε) (e : body ε m = some (.rt (.mr m.length) (m ++ [l]))) (hp : pureM m = true) (hl : puresD l = true) : fnD np n body ds m = some (.lst l, m) := by
  unfold fnD
  rw [if_pos h, he, e]
  show finD m.length (.mr m.length) (m ++ [l]) = _
  unfold finD
  rw [if_neg (by simp), if_pos (by rw [List.take_left']; exact hp; rfl)]
  have : finR m.length (m ++ [l]) (.mr m.length) = some (.lst l) := by
    show (if m.length < m.length then some (D.mr m.length) else (m ++ [l])[m.length]?.bind fun l => if puresD l = true then some (D.lst l) else none) = _
    rw [if_neg (by omega)]
    simp [hl]
  rw [this]
  simp
theorem puresD_ints (q : List Int) : puresD (q.map .int) = true := by
  induction q with
  | nil => rfl
  | cons i r ih => rw [List.map_cons, puresD, ih]; rfl
theorem puresD_paths (l : List (List Int)) : puresD (l.map pD) = true := by
  induction l with
  | nil => rfl
  | cons i r ih =>
    rw [List.map_cons, puresD, ih]
    show (puresD (i.map .int) && true) = true
    rw [puresD_ints]; rfl
theorem idxF_len {f : D → List (List Int)} : ∀ (i : Nat) (l : List D), (idxF f i l).length = (l.map fun p => (f p).length).sum
  | i, [] => rfl
  | i, p :: r => by
    unfold idxF
    rw [List.length_append, List.length_map, idxF_len (i + 1) r]; rfl
theorem sum_part {f : D → Nat} {l : List D} {p : D} (hp : p ∈ l) : f p ≤ (l.map f).sum := by
  induction l with
  | nil => cases hp
  | cons x r ih =>
    rw [List.map_cons, List.sum_cons]
    rcases List.mem_cons.mp hp with rfl | hp
    · omega
    · have := ih hp; omega
theorem ev_paths : ∀ {k n : Nat} {t : D} {m : M}, k + 2 ≤ n → k ≤ 100 → Tm k t → smD t = true → (pathsL k t).length ≤ 1000 → pureM m = true → F n .paths_of [t] m = some (.lst ((pathsL k t).map pD), m)
  | 0, n, t, m, h, hk, T, hs, hr, hm => by cases T
  | k + 1, n, t, m, h, hk, T, hs, hr, hm => by
    obtain ⟨j, rfl, hj⟩ := pred (k := k + 2) (by omega)
    have hp := sm_parts T hs
    have hlen : (idxF (pathsL k) 0 (partsD t)).length ≤ 999 := by
      have : (pathsL (k + 1) t).length = (idxF (pathsL k) 0 (partsD t)).length + 1 := rfl
      omega
    rw [idxF_len] at hlen
    show fnD 1 5 (b_paths_of (F j)) [t] m = _
    refine fnD_own (ε := [some t, none, none, none, none]) rfl rfl ?_ hm (puresD_paths _)
    refine x_seq (ε1 := [some t, some (.mr m.length), none, none, none]) (m1 := m ++ [[.tup []]]) (by
      show (if ([D.tup []] : List D).length ≤ sizeLine then _ else none) = _
      rw [if_pos (by decide)]; rfl) ?_
    have T' := T
    refine x_seq (x_set (x_call1 rfl (ev_parts (by omega) T (sz1000' hp.1)))) ?_
    have loop : ∀ (suf pre : List D) (acc : List (List Int)) (z4 : Option D) (z5 : Option D), partsD t = pre ++ suf → acc.length + (suf.map fun p => (pathsL k p).length).sum ≤ 1000 → ∃ z4' z5', loopD (DL.stN 3) (sExp (fExtd (fV 1) (fLc (fItems (fCall (F j .paths_of) (faCons (fBin ixG (fV 2) (fV 3)) (faNil)))) (DL.stN 4) (fYes) (fTup (faCons (fV 3) (faStar (fV 4) (faNil)))) [4])))
        (rngD (pre.length : Int) suf.length) [some t, some (.mr m.length), some (.lst (partsD t)), z4, z5] (m ++ [acc.map pD]) = some (.nx [some t, some (.mr m.length), some (.lst (partsD t)), z4', z5'] (m ++ [(acc ++ idxF (pathsL k) pre.length suf).map pD])) := by
      intro suf
      induction suf with
      | nil => intro pre acc z4 z5 _ _; exact ⟨z4, z5, by simp [idxF]; rfl⟩
      | cons p r ih =>
        intro pre acc z4 z5 hps hsum
        rw [List.map_cons, List.sum_cons] at hsum
        have hpm : p ∈ partsD t := by rw [hps]; simp
        obtain ⟨a4, a5, e⟩ := ih (pre ++ [p]) (acc ++ (pathsL k p).map fun q => (pre.length : Int) :: q) (some (.int pre.length)) z5 (by rw [hps]; simp) (by rw [List.length_append, List.length_map]; omega)
        refine ⟨a4, a5, ?_⟩
        rw [List.length_cons, rngD_succ]
        unfold loopD
        show ((sExp _ [some t, some (.mr m.length), some (.lst (partsD t)), some (.int pre.length), z5] (m ++ [acc.map pD])).bind _) = _
        have hmm : pureM (m ++ [acc.map pD]) = true := by
          unfold pureM at hm ⊢
          rw [List.all_append, hm]
          simp [puresD_paths]
        have hcall : fItems (fCall (F j .paths_of) (faCons (fBin ixG (fV 2) (fV 3)) faNil)) [some t, some (.mr m.length), some (.lst (partsD t)), some (.int pre.length), z5] (m ++ [acc.map pD]) = some ((pathsL k p).map pD, m ++ [acc.map pD]) := by
          refine x_items (x_call1 (x_bin rfl rfl (d := p) ?_) (ev_paths (by omega) (by omega) (tm_parts T' p hpm) (hp.2 p hpm) ?_ hmm)) rfl
          · show atI (partsD t) (pre.length : Int) = some p
            rw [hps]; exact at_app _ _ _
          · have := sum_part (f := fun p => (pathsL k p).length) hpm
            omega
        have hlc : fLc (fItems (fCall (F j .paths_of) (faCons (fBin ixG (fV 2) (fV 3)) faNil))) (DL.stN 4) fYes (fTup (faCons (fV 3) (faStar (fV 4) faNil))) [4] [some t, some (.mr m.length), some (.lst (partsD t)), some (.int pre.length), z5] (m ++ [acc.map pD]) = some (.lst (((pathsL k p).map pD).map fun d => match d with | .tup l => .tup (.int pre.length :: l) | d => d), m ++ [acc.map pD]) := by
          refine fLc_run hcall (fun d hd => ?_) ?_
          · obtain ⟨q, hq, rfl⟩ := List.mem_map.mp hd
            have hql := paths_len hq
            have : ([D.int pre.length] ++ (q.map D.int ++ [])).length ≤ sizeLine := sz1000 (by simp; omega)
            show ((some ([D.int pre.length] ++ (q.map D.int ++ []), m ++ [acc.map pD]) : Option (List D × M)).bind fun p => if p.1.length ≤ sizeLine then some (D.tup p.1, p.2) else none) = _
            simp only [Option.bind_some]
            rw [if_pos this]
            simp [pD]
          · rw [List.length_map]
            exact sz1000' (by have := sum_part (f := fun p => (pathsL k p).length) hpm; omega)
        have hext : sExp (fExtd (fV 1) (fLc (fItems (fCall (F j .paths_of) (faCons (fBin ixG (fV 2) (fV 3)) faNil))) (DL.stN 4) fYes (fTup (faCons (fV 3) (faStar (fV 4) faNil))) [4])) [some t, some (.mr m.length), some (.lst (partsD t)), some (.int pre.length), z5] (m ++ [acc.map pD]) = some (.nx [some t, some (.mr m.length), some (.lst (partsD t)), some (.int pre.length), z5] (m ++ [(acc ++ (pathsL k p).map fun q => (pre.length : Int) :: q).map pD])) := by
          refine x_exp (d := .non) ?_
          unfold fExtd
          show ((some (D.mr m.length, m ++ [acc.map pD]) : Option (D × M)).bind _) = _
          simp only [Option.bind_some]
          rw [hlc]
          simp only [Option.bind_some]
          rw [show (m ++ [acc.map pD])[m.length]? = some (acc.map pD) by simp]
          simp only [Option.bind_some]
          rw [if_pos (sz1000 (by simp; omega))]
          simp [pD, List.map_map, Function.comp_def]
        rw [hext]
        simp only [Option.bind_some]
        have e' : ((pre ++ [p]).length : Int) = (pre.length : Int) + 1 := by simp
        rw [e'] at e
        rw [e]
        congr 4
        simp [idxF]
    obtain ⟨z4', z5', e⟩ := loop (partsD t) [] [[]] none none rfl (by simp; omega)
    refine x_seq (ε1 := [some t, some (.mr m.length), some (.lst (partsD t)), z4', z5']) (m1 := m ++ [(([[]] : List (List Int)) ++ idxF (pathsL k) 0 (partsD t)).map pD]) ?_ (x_ret rfl)
    unfold sFor
    rw [x_rng1 (k := (partsD t).length) (x_app1 rfl rfl) (by have := hp.1; omega)]
    exact e
/-! ### the law's own paths, ways to a place -/
theorem ev_lpaths : ∀ {k n : Nat} {t : D} {m : M} {pre0 : List Int}, k + 2 ≤ n → k ≤ 100 → pre0.length ≤ 100 - k → Tm k t → smD t = true → (pathsL k t).length ≤ 1000 → F n .law_paths [t, pD pre0] m = some (.lst ((pathsL k t).map fun q => pD (pre0 ++ q)), m)
  | 0, n, t, m, pre0, h, hk, hpl, T, hs, hr => by cases T
  | k + 1, n, t, m, pre0, h, hk, hpl, T, hs, hr => by
    obtain ⟨j, rfl, hj⟩ := pred (k := k + 2) (by omega)
    have hp := sm_parts T hs
    have hlen : (idxF (pathsL k) 0 (partsD t)).length ≤ 999 := by
      have : (pathsL (k + 1) t).length = (idxF (pathsL k) 0 (partsD t)).length + 1 := rfl
      omega
    rw [idxF_len] at hlen
    refine Fr_law_paths ?_
    refine x_seq (ε1 := [some t, some (pD pre0), some (.lst [pD pre0]), none, none]) (m1 := m) (x_set (i := 2) (by
      show (if ([pD pre0] : List D).length ≤ sizeLine then some (D.lst [pD pre0], m) else none) = _
      rw [if_pos (sz1000 (by simp))])) ?_
    refine x_seq (x_set (x_call1 rfl (ev_lparts (by omega) T (sz1000' hp.1)))) ?_
    have loop : ∀ (suf pre : List D) (acc : List (List Int)) (z4 : Option D), partsD t = pre ++ suf → acc.length + (suf.map fun p => (pathsL k p).length).sum ≤ 1000 → ∃ z4', loopD (DL.stN 4) (sSet 2 (fBin addG (fV 2) (fCall (F j .law_paths) (faCons (fBin ixG (fV 3) (fV 4)) (faCons (fBin addG (fV 1) (fTup (faCons (fV 4) (faNil)))) (faNil))))))
        (rngD (pre.length : Int) suf.length) [some t, some (pD pre0), some (.lst (acc.map fun q => pD (pre0 ++ q))), some (.lst (partsD t)), z4] m = some (.nx [some t, some (pD pre0), some (.lst ((acc ++ idxF (pathsL k) pre.length suf).map fun q => pD (pre0 ++ q))), some (.lst (partsD t)), z4'] m) := by
      intro suf
      induction suf with
      | nil => intro pre acc z4 _ _; exact ⟨z4, by simp [idxF]; rfl⟩
      | cons p r ih =>
        intro pre acc z4 hps hsum
        rw [List.map_cons, List.sum_cons] at hsum
        have hpm : p ∈ partsD t := by rw [hps]; simp
        obtain ⟨a4, e⟩ := ih (pre ++ [p]) (acc ++ (pathsL k p).map fun q => (pre.length : Int) :: q) (some (.int pre.length)) (by rw [hps]; simp) (by rw [List.length_append, List.length_map]; omega)
        refine ⟨a4, ?_⟩
        rw [List.length_cons, rngD_succ]
        unfold loopD
        show ((sSet 2 _ [some t, some (pD pre0), some (.lst (acc.map fun q => pD (pre0 ++ q))), some (.lst (partsD t)), some (.int pre.length)] m).bind _) = _
        have hcall : fCall (F j .law_paths) (faCons (fBin ixG (fV 3) (fV 4)) (faCons (fBin addG (fV 1) (fTup (faCons (fV 4) (faNil)))) (faNil))) [some t, some (pD pre0), some (.lst (acc.map fun q => pD (pre0 ++ q))), some (.lst (partsD t)), some (.int pre.length)] m = some (.lst ((pathsL k p).map fun q => pD ((pre0 ++ [(pre.length : Int)]) ++ q)), m) := by
          refine x_call2 (a := p) (b := pD (pre0 ++ [(pre.length : Int)])) (x_bin rfl rfl ?_) (x_bin (b := .tup [.int pre.length]) rfl ?_ ?_) (ev_lpaths (by omega) (by omega) (by simp; omega) (tm_parts T p hpm) (hp.2 p hpm) ?_)
          · show atI (partsD t) (pre.length : Int) = some p
            rw [hps]; exact at_app _ _ _
          · show (if ([D.int pre.length] : List D).length ≤ sizeLine then some (D.tup [.int pre.length], m) else none) = _
            rw [if_pos (sz1000 (by simp))]
          · show (if (pre0.map D.int).length + ([D.int pre.length] : List D).length ≤ sizeLine then some (D.tup (pre0.map D.int ++ [.int pre.length])) else none) = _
            rw [if_pos (sz1000 (by simp; omega))]
            simp [pD]
          · have := sum_part (f := fun p => (pathsL k p).length) hpm
            omega
        rw [x_set (d := .lst ((acc ++ (pathsL k p).map fun q => (pre.length : Int) :: q).map fun q => pD (pre0 ++ q))) (m1 := m) (x_bin rfl hcall (by
          show (if _ + _ ≤ sizeLine then some (D.lst (_ ++ _)) else none) = _
          rw [if_pos (sz1000 (by simp; omega))]
          simp [Function.comp_def]))]
        simp only [Option.bind_some]
        have e' : ((pre ++ [p]).length : Int) = (pre.length : Int) + 1 := by simp
        rw [e'] at e
        refine Eq.trans e ?_
        congr 4
        simp [idxF]
    obtain ⟨z4', e⟩ := loop (partsD t) [] [[]] none rfl (by simp; omega)
    simp only [List.map_cons, List.map_nil, List.append_nil] at e
    refine x_seq (ε1 := [some t, some (pD pre0), some (.lst ((([[]] : List (List Int)) ++ idxF (pathsL k) 0 (partsD t)).map fun q => pD (pre0 ++ q))), some (.lst (partsD t)), z4']) (m1 := m) ?_ (x_ret rfl)
    unfold sFor
    rw [x_rng1 (k := (partsD t).length) (x_app1 rfl rfl) (by have := hp.1; omega)]
    exact e
def atD : D → List Int → Option D
  | t, [] => some t
  | t, i :: q => if 0 ≤ i then (partsD t)[i.toNat]?.bind fun p => atD p q else none
theorem atI_nn {α : Type} {l : List α} {i : Int} (h : 0 ≤ i) : atI l i = l[i.toNat]? := by
  unfold atI ixN
  rw [if_pos h]
  split
  · rfl
  · rw [List.getElem?_eq_none (by omega)]; rfl
theorem ev_term_at {k n : Nat} {t : D} {m : M} {q : List Int} (h : 2 ≤ n) (T : Tm k t) (hs : smD t = true) (hq : ∀ i ∈ q, 0 ≤ i) : F n .term_at [t, pD q] m = some ((atD t q).getD .non, m) := by
  obtain ⟨j, rfl, hj⟩ := pred (k := 1) (by omega)
  refine Fr_term_at ?_
  have loop : ∀ (q' : List Int) (k : Nat) (t : D) (z1 z2 z3 : Option D), Tm k t → smD t = true → (∀ i ∈ q', 0 ≤ i) →
      (∃ u z2' z3', atD t q' = some u ∧ loopD (DL.stN 2) (sSeq (sSet 3 (fCall (F j .parts_of) (faCons (fV 0) (faNil)))) (sSeq (sIf (fT (fBin geG (fV 2) (fApp lenG (f1 (fV 3))))) (sRet (fC .non)) (sNx)) (sSet 0 (fBin ixG (fV 3) (fV 2))))) (q'.map .int) [some t, z1, z2, z3] m = some (.nx [some u, z1, z2', z3'] m)) ∨
      (atD t q' = none ∧ loopD (DL.stN 2) (sSeq (sSet 3 (fCall (F j .parts_of) (faCons (fV 0) (faNil)))) (sSeq (sIf (fT (fBin geG (fV 2) (fApp lenG (f1 (fV 3))))) (sRet (fC .non)) (sNx)) (sSet 0 (fBin ixG (fV 3) (fV 2))))) (q'.map .int) [some t, z1, z2, z3] m = some (.rt .non m)) := by
    intro q'
    induction q' with
    | nil => intro k t z1 z2 z3 T hs _; exact .inl ⟨t, z2, z3, rfl, rfl⟩
    | cons i r ih =>
      intro k t z1 z2 z3 T hs hq
      have hi : 0 ≤ i := hq i List.mem_cons_self
      cases k with
      | zero => cases T
      | succ k =>
      have hp := sm_parts T hs
      have hA : atD t (i :: r) = (partsD t)[i.toNat]?.bind fun p => atD p r := by
        show (if 0 ≤ i then _ else none) = _
        rw [if_pos hi]
      rw [hA]
      have e1 : sSet 3 (fCall (F j .parts_of) (faCons (fV 0) (faNil))) [some t, z1, some (.int i), z3] m = some (.nx [some t, z1, some (.int i), some (.lst (partsD t))] m) := x_set (x_call1 rfl (ev_parts hj T (sz1000' hp.1)))
      have e2 : fT (fBin geG (fV 2) (fApp lenG (f1 (fV 3)))) [some t, z1, some (.int i), some (.lst (partsD t))] m = some (decide (((partsD t).length : Int) ≤ i), m) := x_t (x_bin rfl (x_app1 rfl rfl) rfl)
      rw [List.map_cons]
      by_cases hlt : i.toNat < (partsD t).length
      · have e3 : (partsD t)[i.toNat]? = some (partsD t)[i.toNat] := List.getElem?_eq_getElem hlt
        have hm := List.getElem_mem hlt
        have e4 : fBin ixG (fV 3) (fV 2) [some t, z1, some (.int i), some (.lst (partsD t))] m = some ((partsD t)[i.toNat], m) := x_bin rfl rfl ((atI_nn hi).trans e3)
        have body := x_seq e1 (x_seq (x_ifF (s := sRet (fC .non)) (bt e2 (decide_eq_false (by omega))) x_nx) (x_set (i := 0) e4))
        rcases ih k _ z1 (some (.int i)) (some (.lst (partsD t))) (tm_parts T _ hm) (hp.2 _ hm) (fun x hx => hq x (List.mem_cons_of_mem _ hx)) with ⟨u, z2', z3', ea, el⟩ | ⟨ea, el⟩
        · refine .inl ⟨u, z2', z3', by rw [e3]; exact ea, ?_⟩
          unfold loopD
          show ((sSeq _ _ [some t, z1, some (.int i), z3] m).bind _) = _
          rw [body]
          exact el
        · refine .inr ⟨by rw [e3]; exact ea, ?_⟩
          unfold loopD
          show ((sSeq _ _ [some t, z1, some (.int i), z3] m).bind _) = _
          rw [body]
          exact el
      · have e3 : (partsD t)[i.toNat]? = none := List.getElem?_eq_none (by omega)
        have body := x_seq e1 (x_seqR (s2 := sSet 0 (fBin ixG (fV 3) (fV 2))) (x_ifT (s2 := sNx) (bt e2 (decide_eq_true (by omega))) (x_ret (f := fC .non) rfl)))
        refine .inr ⟨by rw [e3]; rfl, ?_⟩
        unfold loopD
        show ((sSeq _ _ [some t, z1, some (.int i), z3] m).bind _) = _
        rw [body]
        rfl
  rcases loop q k t (some (pD q)) none none T hs hq with ⟨u, z2', z3', ea, el⟩ | ⟨ea, el⟩
  · rw [ea]
    refine x_seq (m1 := m) (ε1 := [some u, some (pD q), z2', z3']) ?_ (x_ret rfl)
    unfold sFor
    rw [x_items rfl rfl]
    exact el
  · rw [ea]
    refine x_seqR (m1 := m) ?_
    unfold sFor
    rw [x_items rfl rfl]
    exact el
theorem ev_lat {k n : Nat} {t u : D} {m : M} {q : List Int} (h : 2 ≤ n) (T : Tm k t) (hs : smD t = true) (ha : atD t q = some u) : F n .law_at [t, pD q] m = some (u, m) := by
  obtain ⟨j, rfl, hj⟩ := pred (k := 1) (by omega)
  refine Fr_law_at ?_
  have loop : ∀ (q' : List Int) (k : Nat) (t : D) (z1 z2 : Option D), Tm k t → smD t = true → atD t q' = some u → ∃ z2', loopD (DL.stN 2) (sSet 0 (fBin ixG (fCall (F j .law_parts) (faCons (fV 0) (faNil))) (fV 2))) (q'.map .int) [some t, z1, z2] m = some (.nx [some u, z1, z2'] m) := by
    intro q'
    induction q' with
    | nil => intro k t z1 z2 T hs ha; cases ha; exact ⟨z2, rfl⟩
    | cons i r ih =>
      intro k t z1 z2 T hs ha
      have ha : (if 0 ≤ i then (partsD t)[i.toNat]?.bind fun p => atD p r else none) = some u := ha
      split at ha
      case isFalse => cases ha
      rename_i hi
      cases k with
      | zero => cases T
      | succ k =>
      have hp := sm_parts T hs
      cases e3 : (partsD t)[i.toNat]? with
      | none => rw [e3] at ha; cases ha
      | some p =>
        rw [e3] at ha
        have hm := List.mem_of_getElem? e3
        obtain ⟨z2', el⟩ := ih k p z1 (some (.int i)) (tm_parts T _ hm) (hp.2 _ hm) ha
        refine ⟨z2', ?_⟩
        rw [List.map_cons]
        unfold loopD
        show ((sSet 0 _ [some t, z1, some (.int i)] m).bind _) = _
        rw [x_set (i := 0) (x_bin (x_call1 rfl (ev_lparts hj T (sz1000' hp.1))) rfl ((atI_nn hi).trans e3))]
        exact el
  obtain ⟨z2', el⟩ := loop q k t (some (pD q)) none T hs ha
  refine x_seq (m1 := m) (ε1 := [some u, some (pD q), z2']) ?_ (x_ret rfl)
  unfold sFor
  rw [x_items rfl rfl]
  exact el
end KK
end
section
set_option Elab.async false
set_option linter.all false
set_option maxRecDepth 100000
namespace KK
open PySem PySem.Spec PyProof.Rows L2 DL
def entD (p : Str × D) : D := .tup [.str p.1, p.2]
theorem ents_split : ∀ {es : List D}, (∀ e ∈ es, entryB e = true) → ∃ ps : List (Str × D), es = ps.map entD ∧ ∀ p ∈ ps, nameB (.str p.1) = true ∧ tw 12 p.2 = true
  | [], _ => ⟨[], rfl, by simp⟩
  | e :: r, h => by
    obtain ⟨ps, er, hp⟩ := ents_split (es := r) fun x hx => h x (List.mem_cons_of_mem _ hx)
    have he := h e List.mem_cons_self
    unfold entryB at he
    split at he
    · rename_i x y
      rw [Bool.and_eq_true] at he
      cases x with
      | str s =>
        refine ⟨(s, y) :: ps, by rw [er]; rfl, fun q hq => ?_⟩
        rcases List.mem_cons.mp hq with rfl | hq
        · exact he
        · exact hp q hq
      | _ => cases he.1
    · cases he
theorem flats_strs : ∀ ss : List Str, flatsD (ss.map .str) = some (ss.map V.str)
  | [] => rfl
  | s :: r => by
    show (some (V.str s)).bind _ = _
    simp only [Option.bind_some, flats_strs r]
    rfl
theorem inB_strs (r : Str) (ss : List Str) : inB (.str r) (.lst (ss.map .str)) = some (decide (r ∈ ss)) := by
  have e : inB (.str r) (.lst (ss.map .str)) = (flatD (.str r)).bind fun u => (flatsD (ss.map .str)).map fun us => inV u us := by unfold inB; rfl
  rw [e, flats_strs]
  show some (inV (.str r) (ss.map V.str)) = _
  congr 1
  unfold inV
  induction ss with
  | nil => rfl
  | cons a t ih =>
    rw [List.map_cons, List.any_cons, ih rfl]
    simp [eqV]
    by_cases h : r = a
    · simp [h]
    · have h' : ¬ a = r := fun z => h z.symm
      simp [h, h']
section
variable {n : Nat} {m : M}
theorem ev_sheet_no {v : D} (h : 47 ≤ n) (hv : tupB v 2 = false) : F n .is_any_sheet [v] m = some (.bl false, m) := by
  obtain ⟨j, rfl, hj⟩ := pred h
  exact Fr_is_any_sheet (x_seqR (x_ifT (x_orTT (bt (x_notT (x_tru (x_call2 rfl rfl (ev_tuple_of (by omega) v 2 m)))) (by rw [hv]; rfl))) rfl))
theorem ev_sheet_nt {x y : D} (h : 47 ≤ n) (hy : isT y = false) : F n .is_any_sheet [.tup [x, y]] m = some (.bl false, m) := by
  obtain ⟨j, rfl, hj⟩ := pred h
  exact Fr_is_any_sheet (x_seqR (x_ifT (x_orTF (bt (x_notT (x_tru (x_call2 rfl rfl (ev_tuple_of (by omega) _ 2 m)))) rfl) (x_orTT (bt (x_notT (x_tru (x_call1 (x_bin rfl rfl rfl) (ev_tuple (by omega) y m)))) (by rw [hy]; rfl)))) rfl))
theorem ev_sheet_nil {x : D} (h : 47 ≤ n) : F n .is_any_sheet [.tup [x, .tup []]] m = some (.bl false, m) := by
  obtain ⟨j, rfl, hj⟩ := pred h
  refine Fr_is_any_sheet (x_seqR (x_ifT (x_orTF (bt (x_notT (x_tru (x_call2 rfl rfl (ev_tuple_of (by omega) _ 2 m)))) rfl) (x_orTF (bt (x_notT (x_tru (x_call1 (x_bin rfl rfl rfl) (ev_tuple (by omega) (.tup []) m)))) rfl) (x_notT (x := false) rfl))) rfl))
def inNames (ns : List Str) (x : D) : Bool := match x with | .str r => decide (r ∈ ns) | _ => false
def refsE : D → List D | .tup [_, t] => (refsL 12 t).map .str | _ => []
def sheetTailB (x : D) (ps : List (Str × D)) : Bool := (ascB (ps.map Prod.fst) && inNames (ps.map Prod.fst) x) && ps.all fun p => (refsL 12 p.2).all fun r => decide (r ∈ ps.map Prod.fst)
theorem ev_sheet_bad {x : D} {es : List D} (h : 47 ≤ n) (hne : es ≠ []) (hs : smD (.tup es) = true) (hb : es.all entryB = false) : F n .is_any_sheet [.tup [x, .tup es]] m = some (.bl false, m) := by
  obtain ⟨j, rfl, hj⟩ := pred h
  have e1 : ∀ z2 z3 z4 z5 z6 : Option D, fBin ixG (fV 0) (fC (.int 1)) [some (.tup [x, .tup es]), z2, z3, z4, z5, z6] m = some (.tup es, m) := fun _ _ _ _ _ => x_bin rfl rfl rfl
  refine Fr_is_any_sheet (x_seq (x_ifF (x_orTF (bt (x_notT (x_tru (x_call2 rfl rfl (ev_tuple_of (by omega) _ 2 m)))) rfl) (x_orTF (bt (x_notT (x_tru (x_call1 (e1 _ _ _ _ _) (ev_tuple (by omega) (.tup es) m)))) rfl) (x_notT (x := true) ?_))) x_nx) (x_seqR (x_ifT (x_notT (bt (x_tru (all_run (x_items (e1 _ _ _ _ _) rfl) (fun e he => x_call1 rfl (ev_entry hj e (sm_mem hs he) m)) (sz1000' (sm_tup hs).1))) hb)) rfl)))
  cases es with
  | nil => exact absurd rfl hne
  | cons e r => rfl
theorem ev_sheet {x : D} {ps : List (Str × D)} (h : 47 ≤ n) (hne : ps ≠ []) (hs : smD (.tup [x, .tup (ps.map entD)]) = true) (hb : (ps.map entD).all entryB = true) (hc : ∀ p ∈ ps, (refsL 12 p.2).length ≤ 1000) (hl : ps.length ≤ 100) :
    F n .is_any_sheet [.tup [x, .tup (ps.map entD)]] m = some (.bl (sheetTailB x ps), m) := by
  obtain ⟨j, rfl, hj⟩ := pred h
  have hse : smD (.tup (ps.map entD)) = true := sm_mem hs (by simp)
  have hsx : smD x = true := sm_mem hs (by simp)
  have e1 : ∀ z2 z3 z4 z5 z6 : Option D, fBin ixG (fV 0) (fC (.int 1)) [some (.tup [x, .tup (ps.map entD)]), z2, z3, z4, z5, z6] m = some (.tup (ps.map entD), m) := fun _ _ _ _ _ => x_bin rfl rfl rfl
  refine Fr_is_any_sheet (x_seq (x_ifF (x_orTF (bt (x_notT (x_tru (x_call2 rfl rfl (ev_tuple_of (by omega) _ 2 m)))) rfl) (x_orTF (bt (x_notT (x_tru (x_call1 (e1 _ _ _ _ _) (ev_tuple (by omega) _ m)))) rfl) (x_notT (x := true) ?_))) x_nx) (x_seq (x_ifF (x_notT (bt (x_tru (all_run (x_items (e1 _ _ _ _ _) rfl) (fun e he => x_call1 rfl (ev_entry hj e (sm_mem hse he) m)) (sz1000' (sm_tup hse).1))) hb)) x_nx)
    (x_seq (ε1 := [some (.tup [x, .tup (ps.map entD)]), some (.lst ((ps.map Prod.fst).map .str)), none, none, none, none]) (m1 := m) (x_set (i := 1) ?_) ?_)))
  · cases ps with
    | nil => exact absurd rfl hne
    | cons e r => rfl
  · have lcP : ∀ (qs : List (Str × D)) (out : List D), out.length + qs.length ≤ 1000 → lcD (stT 2 (stsC (DL.stN 2) (stsC (DL.stN 3) stsN))) fYes (fV 2) [some (.tup [x, .tup (ps.map entD)]), none, none, none, none, none] (qs.map entD) out m = some (out ++ (qs.map Prod.fst).map .str, m) := by
      intro qs
      induction qs with
      | nil => intro out _; simp [lcD]
      | cons q r ih =>
        intro out ho
        rw [List.map_cons]
        unfold lcD
        show ((some [some (.tup [x, .tup (ps.map entD)]), none, some (.str q.1), some q.2, none, none] : Option Ev).bind _) = _
        simp only [Option.bind_some, fYes, if_true]
        show (if out.length < sizeLine then lcD _ fYes (fV 2) _ (r.map entD) (out ++ [D.str q.1]) m else none) = _
        rw [if_pos (sz1000' (by simp at ho; omega)), ih _ (by simp at ho ⊢; omega)]
        simp
    unfold fLc fLcN
    rw [x_items (e1 none none none none none) rfl]
    simp only [Option.bind_some]
    show Option.map _ (lcD _ fYes (fV 2) [some (.tup [x, .tup (ps.map entD)]), none, none, none, none, none] (ps.map entD) [] m) = _
    rw [lcP ps [] (by simp; omega)]
    simp
  · have a1 := ev_ascending (n := j) (by omega) (ps.map Prod.fst) (by simp; omega) m
    have t1 : fNotT (fTru (fCall (F j .is_ascending) (faCons (fV 1) faNil))) [some (.tup [x, .tup (ps.map entD)]), some (.lst ((ps.map Prod.fst).map .str)), none, none, none, none] m = some (!ascB (ps.map Prod.fst), m) := x_notT (x_tru (x_call1 rfl a1))
    have t2 : fNotT (fTru (fCall (F j .is_string) (faCons (fBin ixG (fV 0) (fC (.int 0))) faNil))) [some (.tup [x, .tup (ps.map entD)]), some (.lst ((ps.map Prod.fst).map .str)), none, none, none, none] m = some (!isS x, m) := x_notT (x_tru (x_call1 (x_bin rfl rfl rfl) (ev_string (by omega) x m)))
    have main : isS x = true → fT (fBin notInG (fBin ixG (fV 0) (fC (.int 0))) (fV 1)) [some (.tup [x, .tup (ps.map entD)]), some (.lst ((ps.map Prod.fst).map .str)), none, none, none, none] m = some (!inNames (ps.map Prod.fst) x, m) := fun hx => by
      cases x with
      | str r =>
        refine x_t (x_bin (x_bin rfl rfl rfl) rfl ?_)
        show (inB (.str r) (.lst ((ps.map Prod.fst).map .str))).map (fun b => D.bl !b) = _
        rw [inB_strs]; rfl
      | _ => cases hx
    have fin : fApp allG (f1 (fLc2 (fItems (fBin ixG (fV 0) (fC (.int 1)))) (stT 2 (stsC (DL.stN 3) (stsC (DL.stN 4) stsN))) (fItems (fCall (F j .refs_of) (faCons (fV 4) faNil))) (DL.stN 2) (fBin inG (fV 2) (fV 1)) [3, 4, 2] [2])) [some (.tup [x, .tup (ps.map entD)]), some (.lst ((ps.map Prod.fst).map .str)), none, none, none, none] m = some (.bl (ps.all fun p => (refsL 12 p.2).all fun r => decide (r ∈ ps.map Prod.fst)), m) := by
      have hb' := List.all_eq_true.mp hb
      have tms : ∀ p ∈ ps, Tm 12 p.2 ∧ smD p.2 = true := fun p hp => by
        have := hb' (entD p) (List.mem_map.mpr ⟨p, hp, rfl⟩)
        have h2 : (nameB (.str p.1) && tw 12 p.2) = true := this
        rw [Bool.and_eq_true] at h2
        exact ⟨tm_of h2.2, sm_mem (sm_mem hse (List.mem_map.mpr ⟨p, hp, rfl⟩)) (by simp [entD])⟩
      have run := fLc2_run (fi := fItems (fBin ixG (fV 0) (fC (.int 1)))) (st := stT 2 (stsC (DL.stN 3) (stsC (DL.stN 4) stsN))) (fj := fItems (fCall (F j .refs_of) (faCons (fV 4) faNil))) (i := 2) (f := fBin inG (fV 2) (fV 1)) (vs := [3, 4, 2]) (vs1 := [2]) (ε := [some (.tup [x, .tup (ps.map entD)]), some (.lst ((ps.map Prod.fst).map .str)), none, none, none, none]) (m := m)
        (gs := refsE) (g := fun _ r => .bl (inNames (ps.map Prod.fst) r)) (l := ps.map entD) (x_items (e1 _ _ _ _ _) rfl) (fun e he => by
          obtain ⟨p, hp, rfl⟩ := List.mem_map.mp he
          refine ⟨_, rfl, x_items (x_call1 rfl (ev_refs (by omega) (tms p hp).1 (tms p hp).2 (hc p hp))) rfl, fun r hr => ?_⟩
          obtain ⟨s, hs', rfl⟩ := List.mem_map.mp hr
          refine x_bin rfl rfl ?_
          show (inB (.str s) (.lst ((ps.map Prod.fst).map .str))).map D.bl = _
          rw [inB_strs]; rfl) (by
          have : ∀ qs : List (Str × D), (∀ p ∈ qs, (refsL 12 p.2).length ≤ 1000) → ((qs.map entD).flatMap fun d => ((refsE d).map fun r => D.bl (inNames (ps.map Prod.fst) r))).length ≤ 1000 * qs.length := by
            intro qs
            induction qs with
            | nil => intro _; simp
            | cons q r ih =>
              intro hq
              have h1 := hq q List.mem_cons_self
              have h2 := ih fun p hp => hq p (List.mem_cons_of_mem _ hp)
              rw [List.map_cons, List.flatMap_cons, List.length_append]
              have : ((refsE (entD q)).map fun r => D.bl (inNames (ps.map Prod.fst) r)).length = (refsL 12 q.2).length := by simp [entD, refsE]
              rw [this, List.length_cons]
              omega
          have h3 := this ps hc
          exact Nat.le_trans h3 (Nat.le_trans (Nat.mul_le_mul_left 1000 hl) (by decide)))
      refine x_app1 (fLc2_lst run) ?_
      have e3 : ((ps.map entD).flatMap fun d => ((refsE d).map fun r => D.bl (inNames (ps.map Prod.fst) r))) = (ps.flatMap fun p => (refsL 12 p.2).map fun r => decide (r ∈ ps.map Prod.fst)).map D.bl := by
        rw [List.map_flatMap, List.flatMap_map]
        congr 1
        funext p
        simp [entD, refsE, inNames, Function.comp_def]
      show (blsD _).map _ = _
      rw [e3, all_bls]
      simp only [Option.map_some]
      congr 2
      rw [List.all_flatMap]
      congr 1
      funext p
      rw [List.all_map]
      rfl
    refine bs (x_guard (x_orT t1 fun _ => x_orT t2 fun hx => main (by simpa using hx)) fun _ => x_ret fin) ?_
    unfold sheetTailB
    cases hx : isS x with
    | true => simp
    | false =>
      have : inNames (ps.map Prod.fst) x = false := by
        cases x with
        | str r => cases hx
        | _ => rfl
      simp [this]
end
end KK
end
section
set_option Elab.async false
set_option linter.all false
set_option maxRecDepth 100000
namespace KK
open PySem PySem.Spec PyProof.Rows L2 DL
def shD (r : Str) (ps : List (Str × D)) : D := .tup [.str r, .tup (ps.map entD)]
structure Sh (r : Str) (ps : List (Str × D)) : Prop where
  ne : ps ≠ []
  len : ps.length ≤ 100
  nm : ∀ p ∈ ps, nameB (.str p.1) = true
  tm : ∀ p ∈ ps, tw 12 p.2 = true
  sm : smD (shD r ps) = true
  asc : ascB (ps.map Prod.fst) = true
  nd : (ps.map Prod.fst).Nodup
  root : r ∈ ps.map Prod.fst
  refs : ∀ p ∈ ps, ∀ s ∈ refsL 12 p.2, s ∈ ps.map Prod.fst
  rc : ∀ p ∈ ps, (refsL 12 p.2).length ≤ 1000
  pc : ∀ p ∈ ps, (pathsL 12 p.2).length ≤ 300
section
variable {n : Nat} {m : M} {r : Str} {ps : List (Str × D)}
theorem Sh.smE (S : Sh r ps) : smD (.tup (ps.map entD)) = true := sm_mem S.sm (by simp)
theorem Sh.smT (S : Sh r ps) {p : Str × D} (hp : p ∈ ps) : smD p.2 = true := sm_mem (sm_mem S.smE (List.mem_map.mpr ⟨p, hp, rfl⟩)) (by simp [entD])
theorem Sh.ents (S : Sh r ps) : (ps.map entD).all entryB = true := by
  rw [List.all_eq_true]
  intro e he
  obtain ⟨p, hp, rfl⟩ := List.mem_map.mp he
  show (nameB (.str p.1) && tw 12 p.2) = true
  rw [S.nm p hp, S.tm p hp]; rfl
theorem Sh.ok (S : Sh r ps) (h : 47 ≤ n) : F n .is_any_sheet [shD r ps] m = some (.bl true, m) := by
  refine (ev_sheet h S.ne S.sm S.ents S.rc S.len).trans ?_
  have : sheetTailB (.str r) ps = true := by
    unfold sheetTailB
    rw [S.asc]
    have h1 : inNames (ps.map Prod.fst) (.str r) = true := decide_eq_true S.root
    rw [h1]
    simp only [Bool.true_and, List.all_eq_true]
    intro p hp s hs
    exact decide_eq_true (S.refs p hp s hs)
  rw [this]
def findE (ps : List (Str × D)) (nm : Str) : Option D := (ps.find? fun p => decide (p.1 = nm)).map Prod.snd
theorem findE_mem {nm : Str} {t : D} (h : findE ps nm = some t) : (nm, t) ∈ ps := by
  unfold findE at h
  cases e : ps.find? (fun p => decide (p.1 = nm)) with
  | none => rw [e] at h; cases h
  | some p =>
    rw [e] at h
    cases h
    have h1 := List.mem_of_find?_eq_some e
    have h2 : decide (p.1 = nm) = true := List.find?_some (p := fun p : Str × D => decide (p.1 = nm)) e
    have h3 : p.1 = nm := of_decide_eq_true h2
    subst h3; exact h1
theorem ev_term_of_name (h : 1 ≤ n) (nm : Str) : F n .term_of_name [shD r ps, .str nm] m = some ((findE ps nm).getD .non, m) := by
  obtain ⟨j, rfl, hj⟩ := pred h
  refine Fr_term_of_name ?_
  have loop : ∀ (qs : List (Str × D)) (a b z2 z3 : Option D), b = some (.str nm) → (∃ t, findE qs nm = some t ∧ loopD (stT 2 (stsC (DL.stN 2) (stsC (DL.stN 3) (stsN)))) (sIf (fT (fBin eqG (fV 2) (fV 1))) (sRet (fV 3)) (sNx)) (qs.map entD) [a, b, z2, z3] m = some (.rt t m)) ∨
      (findE qs nm = none ∧ ∃ z2' z3', loopD (stT 2 (stsC (DL.stN 2) (stsC (DL.stN 3) (stsN)))) (sIf (fT (fBin eqG (fV 2) (fV 1))) (sRet (fV 3)) (sNx)) (qs.map entD) [a, b, z2, z3] m = some (.nx [a, b, z2', z3'] m)) := by
    intro qs
    induction qs with
    | nil => intro a b z2 z3 hb; exact .inr ⟨rfl, z2, z3, rfl⟩
    | cons q t ih =>
      intro a b z2 z3 hb
      subst hb
      have e1 : fT (fBin eqG (fV 2) (fV 1)) [a, some (.str nm), some (.str q.1), some q.2] m = some (decide (q.1 = nm), m) := x_t (x_bin rfl rfl (eqG_str _ _ _))
      rw [List.map_cons]
      by_cases hq : q.1 = nm
      · refine .inl ⟨q.2, by simp [findE, hq], ?_⟩
        unfold loopD
        show ((sIf _ _ _ [a, some (.str nm), some (.str q.1), some q.2] m).bind _) = _
        rw [x_ifT (bt e1 (decide_eq_true hq)) (x_ret (f := fV 3) rfl)]
        rfl
      · have hf : findE (q :: t) nm = findE t nm := by simp [findE, hq]
        rw [hf]
        have body := x_ifF (s := sRet (fV 3)) (bt e1 (decide_eq_false hq)) (x_nx)
        have step : ∀ o, loopD (stT 2 (stsC (DL.stN 2) (stsC (DL.stN 3) (stsN)))) (sIf (fT (fBin eqG (fV 2) (fV 1))) (sRet (fV 3)) (sNx)) (t.map entD) [a, some (.str nm), some (.str q.1), some q.2] m = o → loopD (stT 2 (stsC (DL.stN 2) (stsC (DL.stN 3) (stsN)))) (sIf (fT (fBin eqG (fV 2) (fV 1))) (sRet (fV 3)) (sNx)) (entD q :: t.map entD) [a, some (.str nm), z2, z3] m = o := fun o ho => by
          unfold loopD
          show ((sIf _ _ _ [a, some (.str nm), some (.str q.1), some q.2] m).bind _) = _
          rw [body]
          exact ho
        rcases ih a _ (some (.str q.1)) (some q.2) rfl with ⟨u, h1, h2⟩ | ⟨h1, z2', z3', h2⟩
        · exact .inl ⟨u, h1, step _ h2⟩
        · exact .inr ⟨h1, z2', z3', step _ h2⟩
  have hi : fItems (fBin ixG (fV 0) (fC (.int 1))) [some (shD r ps), some (.str nm), none, none] m = some (ps.map entD, m) := x_items (x_bin rfl rfl rfl) rfl
  rcases loop ps (some (shD r ps)) (some (.str nm)) none none rfl with ⟨u, h1, h2⟩ | ⟨h1, z2', z3', h2⟩
  · rw [h1]
    refine x_seqR ?_
    unfold sFor
    rw [hi]
    exact h2
  · rw [h1]
    refine x_seq (m1 := m) (ε1 := [some (shD r ps), some (.str nm), z2', z3']) ?_ (x_ret (f := fC .non) rfl)
    unfold sFor
    rw [hi]
    exact h2
def intsOf (l : List D) : List Int := l.map fun d => match d with | .int i => i | _ => 0
theorem ints_all {l : List D} (h : l.all stepB = true) : .tup l = pD (intsOf l) ∧ ∀ i ∈ intsOf l, 0 ≤ i := by
  unfold pD intsOf
  rw [List.map_map]
  have : ∀ d ∈ l, stepB d = true := List.all_eq_true.mp h
  constructor
  · congr 1
    conv => lhs; rw [← List.map_id l]
    apply List.map_congr_left
    intro d hd
    have := this d hd
    cases d with
    | int i => rfl
    | _ => cases this
  · intro i hi
    obtain ⟨d, hd, rfl⟩ := List.mem_map.mp hi
    have := this d hd
    cases d with
    | int i => exact of_decide_eq_true this
    | _ => cases this
def placeB (ps : List (Str × D)) (v : D) : Bool := match v with
  | .tup [.str nm, .tup q] => q.all stepB && (match findE ps nm with | some t => (atD t (intsOf q)).isSome | none => false)
  | _ => false
theorem atD_tm : ∀ {k : Nat} {t u : D} {q : List Int}, Tm k t → atD t q = some u → ∃ k', Tm k' u
  | k, t, u, [], T, h => by cases h; exact ⟨k, T⟩
  | 0, t, u, i :: q, T, h => by cases T
  | k + 1, t, u, i :: q, T, h => by
    have h : (if 0 ≤ i then (partsD t)[i.toNat]?.bind fun p => atD p q else none) = some u := h
    split at h
    · cases e : (partsD t)[i.toNat]? with
      | none => rw [e] at h; cases h
      | some p => rw [e] at h; exact atD_tm (tm_parts T p (List.mem_of_getElem? e)) h
    · cases h
theorem tm_isnot {k : Nat} {u : D} (T : Tm k u) : isNotG u .non m = some (.bl true) := by cases T <;> rfl
theorem ev_place (S : Sh r ps) (h : 4 ≤ n) (v : D) (hs : smD v = true) : F n .is_place_of [shD r ps, v] m = some (.bl (placeB ps v), m) := by
  obtain ⟨j, rfl, hj⟩ := pred h
  refine Fr_is_place_of ?_
  have t1 := x_notT (x_tru (x_call2 (fa := fV 1) (fb := fC (.int 2)) (ε := [some (shD r ps), some v, none]) (m := m) rfl rfl (ev_tuple_of (n := j) (by omega) v 2 m)))
  cases hv : tupB v 2 with
  | false =>
    rw [hv] at t1
    refine (x_seqR (x_ifT (x_orTT t1) rfl)).trans ?_
    have : placeB ps v = false := by
      unfold placeB
      split
      · cases hv
      · rfl
    rw [this]
  | true =>
    rw [hv] at t1
    obtain ⟨x, y, rfl⟩ := tupB2 hv
    have hx : smD x = true := sm_mem hs (by simp)
    have hy : smD y = true := sm_mem hs (by simp)
    have t2 := x_notT (x_tru (x_call1 (fa := fBin ixG (fV 1) (fC (.int 0))) (ε := [some (shD r ps), some (.tup [x, y]), none]) (m := m) (x_bin rfl rfl rfl) (ev_string (n := j) (by omega) x m)))
    have t3 := x_notT (x_tru (x_call1 (fa := fBin ixG (fV 1) (fC (.int 1))) (ε := [some (shD r ps), some (.tup [x, y]), none]) (m := m) (x_bin rfl rfl rfl) (ev_path (n := j) (by omega) y hy m)))
    cases x with
    | str nm =>
      cases y with
      | tup q =>
        by_cases hq : q.all stepB = true
        · obtain ⟨e1, e2⟩ := ints_all hq
          refine x_seq (x_ifF (x_orTF t1 (x_orTF t2 (bt t3 (by show (!q.all stepB) = false; rw [hq]; rfl)))) x_nx) (x_seq (x_set (x_call2 rfl (x_bin rfl rfl rfl) (ev_term_of_name (by omega) nm))) (x_ret ?_))
          have hpl : placeB ps (.tup [.str nm, .tup q]) = (match findE ps nm with | some t => (atD t (intsOf q)).isSome | none => false) := by
            show (q.all stepB && _) = _
            rw [hq]; rfl
          rw [hpl]
          cases hf : findE ps nm with
          | none => exact x_andF (x_bin rfl rfl rfl)
          | some t =>
            have hp := findE_mem hf
            have T := tm_of (S.tm _ hp)
            refine x_andG (x_bin rfl rfl (tm_isnot T)) ?_
            have ht := ev_term_at (n := j) (m := m) (by omega) T (S.smT hp) e2
            rw [← e1] at ht
            refine x_bin (x_call2 rfl (x_bin rfl rfl rfl) ht) rfl ?_
            show isNotG ((atD t (intsOf q)).getD .non) .non m = some (.bl (atD t (intsOf q)).isSome)
            cases ha : atD t (intsOf q) with
            | none => rfl
            | some u =>
              obtain ⟨k', T'⟩ := atD_tm T ha
              exact tm_isnot T'
        · have hq' : q.all stepB = false := by simpa using hq
          refine (x_seqR (x_ifT (x_orTF t1 (x_orTF t2 (bt t3 (by show (!q.all stepB) = true; rw [hq']; rfl)))) rfl)).trans ?_
          simp only [placeB, hq', Bool.false_and]
      | _ => exact x_seqR (x_ifT (x_orTF t1 (x_orTF t2 t3)) rfl)
    | _ => exact x_seqR (x_ifT (x_orTF t1 (x_orTT t2)) rfl)
/-! ### what raises, what tells places -/
def sheetOf (n : Nat) (v : D) (b : Bool) : Prop := ∀ m, F n .is_any_sheet [v] m = some (.bl b, m)
variable {cl : Cid → Addr}
theorem gx_sheet_no {v : D} (h : sheetOf n v false) : g_need_sheet (F n) cl [v] m = some (.ex (cl .InvalidSheet) m) := by
  have e : fNotT (fTru (fCall (F n .is_any_sheet) (faCons (fV 0) faNil))) [some v] m = some (true, m) := x_notT (x_tru (x_call1 rfl (h m)))
  unfold g_need_sheet fnX
  show ((xIf _ _ _ [some v] m).bind _) = _
  unfold xIf
  rw [e]
  show (if m.length = m.length then some (RX.ex (cl .InvalidSheet) m) else none) = _
  rw [if_pos rfl]
theorem gx_sheet_ok {v : D} (h : sheetOf n v true) : g_need_sheet (F n) cl [v] m = some (.ok .non m) := by
  have e : fNotT (fTru (fCall (F n .is_any_sheet) (faCons (fV 0) faNil))) [some v] m = some (false, m) := x_notT (x_tru (x_call1 rfl (h m)))
  unfold g_need_sheet fnX
  show ((xIf _ _ _ [some v] m).bind _) = _
  unfold xIf
  rw [e]
  show (if m.length = m.length then some (RX.ok .non m) else none) = _
  rw [if_pos rfl]
def placeOf (n : Nat) (s v : D) (b : Bool) : Prop := ∀ m, F n .is_place_of [s, v] m = some (.bl b, m)
theorem gx_place_no {s v : D} (h : placeOf n s v false) : g_need_place (F n) cl [s, v] m = some (.ex (cl .InvalidPlace) m) := by
  have e : fNotT (fTru (fCall (F n .is_place_of) (faCons (fV 0) (faCons (fV 1) faNil)))) [some s, some v] m = some (true, m) := x_notT (x_tru (x_call2 rfl rfl (h m)))
  unfold g_need_place fnX
  show ((xIf _ _ _ [some s, some v] m).bind _) = _
  unfold xIf
  rw [e]
  show (if m.length = m.length then some (RX.ex (cl .InvalidPlace) m) else none) = _
  rw [if_pos rfl]
theorem gx_place_ok {s v : D} (h : placeOf n s v true) : g_need_place (F n) cl [s, v] m = some (.ok .non m) := by
  have e : fNotT (fTru (fCall (F n .is_place_of) (faCons (fV 0) (faCons (fV 1) faNil)))) [some s, some v] m = some (false, m) := x_notT (x_tru (x_call2 rfl rfl (h m)))
  unfold g_need_place fnX
  show ((xIf _ _ _ [some s, some v] m).bind _) = _
  unfold xIf
  rw [e]
  show (if m.length = m.length then some (RX.ok .non m) else none) = _
  rw [if_pos rfl]
theorem fnX_ex {np k : Nat} {body : FSX} {ds : List D} {ε ε1 : Ev} {c : Addr} (h : ds.length = np) (he : ds.map some ++ List.replicate (k - np) none = ε) (e : body ε m = some (.ex c ε1 m)) : fnX np k body ds m = some (.ex c m) := by
  unfold fnX
  rw [if_pos h, he, e]
  show (if m.length = m.length then some (RX.ex c m) else none) = _
  rw [if_pos rfl]
theorem xs_ex {f g : FSX} {ε ε1 : Ev} {c : Addr} (e : f ε m = some (.ex c ε1 m)) : xSeq f g ε m = some (.ex c ε1 m) := by unfold xSeq; rw [e]; rfl
theorem xs_nx {f g : FSX} {ε ε1 : Ev} {o : Option OX} (e : f ε m = some (.o (.nx ε1 m))) (h : g ε1 m = o) : xSeq f g ε m = o := by unfold xSeq; rw [e]; exact h
theorem xc_ex {G : FX} {fs : FA} {ε : Ev} {ds : List D} {c : Addr} (e : fs ε m = some (ds, m)) (h : G ds m = some (.ex c m)) : xCall G fs ε m = some (.ex c ε m) := by unfold xCall; rw [e]; simp only [Option.bind_some]; rw [h]; rfl
theorem xc_ok {G : FX} {fs : FA} {ε : Ev} {ds : List D} {d : D} (e : fs ε m = some (ds, m)) (h : G ds m = some (.ok d m)) : xCall G fs ε m = some (.o (.nx ε m)) := by unfold xCall; rw [e]; simp only [Option.bind_some]; rw [h]; rfl
theorem fnD_nx {np k : Nat} {body : FS} {ds : List D} {ε ε1 : Ev} (h : ds.length = np) (e : body ε m = some (.nx ε1 m)) (he : ds.map some ++ List.replicate (k - np) none = ε) : fnD np k body ds m = some (.non, m) := by
  subst he
  unfold fnD
  rw [if_pos h, e]
  show finD m.length .non m = _
  unfold finD
  rw [if_pos rfl]
theorem ev_need_sheet {v : D} (h : sheetOf n v true) : F (n + 1) .need_sheet [v] m = some (.non, m) := by
  show fnD 1 1 (b_need_sheet (F n)) [v] m = _
  exact fnD_nx (ε := [some v]) rfl (x_ifF (x_notT (x_tru (x_call1 rfl (h m)))) rfl) rfl
theorem ev_need_place {s v : D} (h : placeOf n s v true) : F (n + 1) .need_place [s, v] m = some (.non, m) := by
  show fnD 2 2 (b_need_place (F n)) [s, v] m = _
  exact fnD_nx (ε := [some s, some v]) rfl (x_ifF (x_notT (x_tru (x_call2 rfl rfl (h m)))) rfl) rfl
/-- the spots of a sheet -/
def spotsL (ps : List (Str × D)) : List (Str × List Int) := ps.flatMap fun p => (pathsL 12 p.2).map fun q => (p.1, q)
def spotD (s : Str × List Int) : D := .tup [.str s.1, pD s.2]
def pathsE : D → List D | .tup [_, t] => (pathsL 12 t).map pD | _ => []
def nameE : D → D | .tup [x, _] => x | _ => .non
theorem spots_map : (ps.map entD).flatMap (fun d => (pathsE d).map fun q => D.tup [nameE d, q]) = (spotsL ps).map spotD := by
  unfold spotsL
  rw [List.map_flatMap, List.flatMap_map]
  congr 1
  funext p
  simp [entD, pathsE, nameE, spotD, Function.comp_def]
theorem Sh.spots_len (S : Sh r ps) : (spotsL ps).length ≤ 300 * ps.length := by
  unfold spotsL
  have := S.pc
  clear S
  induction ps with
  | nil => simp
  | cons p t ih =>
    rw [List.flatMap_cons, List.length_append, List.length_map, List.length_cons]
    have h1 := this p List.mem_cons_self
    have h2 := ih fun q hq => this q (List.mem_cons_of_mem _ hq)
    omega
theorem Sh.spots_run (S : Sh r ps) (h : 20 ≤ n) (hm : pureM m = true) (vs : List Nat) (ε : Ev) (hε : ε = [some (shD r ps), none, none, none]) :
    fLc2N (fItems (fBin ixG (fV 0) (fC (.int 1)))) (stT 2 (stsC (DL.stN 1) (stsC (DL.stN 2) (stsN)))) (fItems (fCall (F n .paths_of) (faCons (fV 2) (faNil)))) (DL.stN 3) (fTup (faCons (fV 1) (faCons (fV 3) (faNil)))) [1, 2, 3] [3] ε m = some ((spotsL ps).map spotD, m) := by
  subst hε
  have run := fLc2_run (fi := fItems (fBin ixG (fV 0) (fC (.int 1)))) (st := stT 2 (stsC (DL.stN 1) (stsC (DL.stN 2) (stsN)))) (fj := fItems (fCall (F n .paths_of) (faCons (fV 2) (faNil)))) (i := 3) (f := fTup (faCons (fV 1) (faCons (fV 3) (faNil)))) (vs := [1, 2, 3]) (vs1 := [3]) (ε := [some (shD r ps), none, none, none]) (m := m)
    (gs := pathsE) (g := fun d q => .tup [nameE d, q]) (l := ps.map entD) (x_items (x_bin rfl rfl rfl) rfl) (fun e he => by
      obtain ⟨p, hp, rfl⟩ := List.mem_map.mp he
      refine ⟨_, rfl, x_items (x_call1 rfl (ev_paths (by omega) (by omega) (tm_of (S.tm p hp)) (S.smT hp) (Nat.le_trans (S.pc p hp) (by omega)) hm)) rfl, fun q hq => ?_⟩
      show (if ([D.str p.1, q] : List D).length ≤ sizeLine then some (D.tup [.str p.1, q], m) else none) = _
      rw [if_pos (sz1000 (by simp))]; rfl) (by
      rw [spots_map, List.length_map]
      have h1 := S.spots_len
      have h2 := S.len
      exact Nat.le_trans h1 (Nat.le_trans (Nat.mul_le_mul_left 300 h2) (by decide)))
  rw [run, spots_map]
theorem ev_places (S : Sh r ps) (h : 60 ≤ n) (hm : pureM m = true) : F n .places [shD r ps] m = some (.lst ((spotsL ps).map spotD), m) := by
  obtain ⟨j, rfl, hj⟩ := pred h
  obtain ⟨j, rfl, hj⟩ := pred hj
  refine Fr_places (x_seq (x_exp (x_call1 rfl (ev_need_sheet fun m => S.ok (by omega)))) (x_ret (fLc2_lst (S.spots_run (by omega) hm [] _ rfl))))
theorem evn_places (S : Sh r ps) (h : 60 ≤ n) (hm : pureM m = true) : nplc n [shD r ps] m = some ((spotsL ps).map spotD, m) := by
  obtain ⟨j, rfl, hj⟩ := pred h
  show fnN 1 4 (bn_places (F (j + 1))) [shD r ps] m = _
  unfold fnN
  rw [if_pos (by rfl)]
  have e : bn_places (F (j + 1)) [some (shD r ps), none, none, none] m = some (.rn ((spotsL ps).map spotD) m) := by
    refine x_seq (x_exp (x_call1 rfl (ev_need_sheet fun m => S.ok (by omega)))) ?_
    unfold sRetN
    rw [S.spots_run (by omega) hm [] _ rfl]; rfl
  show ((bn_places (F (j + 1)) [some (shD r ps), none, none, none] m).bind _) = _
  rw [e]
  show (if m.length = m.length then some ((spotsL ps).map spotD, m) else _) = _
  rw [if_pos rfl]
end
end KK
end
section
set_option Elab.async false
set_option linter.all false
set_option maxRecDepth 100000
namespace KK
open PySem PySem.Spec PyProof.Rows L2 DL
/-! ### what the law itself works out -/
def dOk : Nat → D → Bool
  | _, .non => true | _, .bl _ => true | _, .int _ => true | _, .str _ => true
  | k + 1, .tup l => decide (l.length ≤ 1000) && l.all (dOk k)
  | k + 1, .lst l => decide (l.length ≤ 1000) && l.all (dOk k)
  | _, _ => false
section
variable {n : Nat} {m : M} {r : Str} {ps : List (Str × D)}
theorem same_loop {j : Nat} {h d : D} (l : List D) (hd : itemsD d = some l) (hh : ∀ i x, l[i]? = some x → ixG h (.int (i : Nat)) m = some x) (hdd : ∀ i x, l[i]? = some x → ixG d (.int (i : Nat)) m = some x) (S : ∀ x ∈ l, F j .law_same [x, x] m = some (.bl true, m)) :
    ∀ (suf pre : List D) (z : Option D), l = pre ++ suf → ∃ z', loopD (DL.stN 2) (sIf (fNotT (fTru (fCall (F j .law_same) (faCons (fBin ixG (fV 0) (fV 2)) (faCons (fBin ixG (fV 1) (fV 2)) (faNil)))))) (sRet (fC (.bl false))) (sNx)) (rngD (pre.length : Int) suf.length) [some h, some d, z] m = some (.nx [some h, some d, z'] m) := by
  intro suf
  induction suf with
  | nil => intro pre z _; exact ⟨z, rfl⟩
  | cons x t ih =>
    intro pre z e
    obtain ⟨z', el⟩ := ih (pre ++ [x]) (some (.int pre.length)) (by rw [e]; simp)
    refine ⟨z', ?_⟩
    rw [List.length_cons, rngD_succ]
    unfold loopD
    show ((sIf _ _ _ [some h, some d, some (.int pre.length)] m).bind _) = _
    have hx : l[pre.length]? = some x := by rw [e]; simp
    rw [x_ifF (s := sRet (fC (.bl false))) (x_notT (x_tru (x_call2 (x_bin rfl rfl (hh _ _ hx)) (x_bin rfl rfl (hdd _ _ hx)) (S x (by rw [e]; simp))))) x_nx]
    have e' : ((pre ++ [x]).length : Int) = (pre.length : Int) + 1 := by simp
    rw [e'] at el
    exact el
theorem ix_get {l : List D} {i : Nat} {x : D} (h : l[i]? = some x) : atI l (i : Int) = some x := by
  rw [atI_nn (by omega)]
  simpa using h
theorem eqG_bl (a b : Bool) : eqG (.bl a) (.bl b) m = some (.bl (decide (a = b))) := by cases a <;> cases b <;> rfl
theorem ie2 (x : D) (h : itemsD x = none ∨ ∃ s, x = .str s) : (isiB "tuple" x || isiB "list" x) = false ∨ ∃ k, x = .mr k := by
  cases x with
  | mr k => exact .inr ⟨k, rfl⟩
  | tup l => rcases h with h | ⟨s, h⟩ <;> cases h
  | lst l => rcases h with h | ⟨s, h⟩ <;> cases h
  | _ => exact .inl (by simp [isiB])
theorem same_seq {j : Nat} {h d : D} {l : List D} (hl : l.length ≤ 1000) (hd : itemsD d = some l) (hI : (isiB "tuple" d || isiB "list" d) = true) (ht : isiB "tuple" h = isiB "tuple" d) (htl : isiB "list" h = isiB "list" d) (lh : lenG [h] m = some (.int (l.length : Nat))) (ld : lenG [d] m = some (.int (l.length : Nat)))
    (hh : ∀ i x, l[i]? = some x → ixG h (.int (i : Nat)) m = some x) (hdd : ∀ i x, l[i]? = some x → ixG d (.int (i : Nat)) m = some x) (S : ∀ x ∈ l, F j .law_same [x, x] m = some (.bl true, m)) : F (j + 1) .law_same [h, d] m = some (.bl true, m) := by
  refine Fr_law_same (x_seqR (x_ifT (x_tru (bf (x_un rfl rfl) hI)) ?_))
  have n1 : fT (fBin neG (fUn (isiG "tuple") (fV 0)) (fUn (isiG "tuple") (fV 1))) [some h, some d, none] m = some (false, m) := by
    refine x_t (x_bin (a := .bl (isiB "tuple" h)) (b := .bl (isiB "tuple" d)) rfl rfl ?_)
    rw [ht]; cases isiB "tuple" d <;> rfl
  have n2 : fT (fBin neG (fUn (isiG "list") (fV 0)) (fUn (isiG "list") (fV 1))) [some h, some d, none] m = some (false, m) := by
    refine x_t (x_bin (a := .bl (isiB "list" h)) (b := .bl (isiB "list" d)) rfl rfl ?_)
    rw [htl]; cases isiB "list" d <;> rfl
  refine x_seq (x_ifF (x_orTF n1 n2) x_nx) (x_seq (x_ifF (x_t (x_bin (x_app1 rfl lh) (x_app1 rfl ld) ((neG_int _ _ _).trans (by simp)))) x_nx) ?_)
  obtain ⟨z', e⟩ := same_loop l hd hh hdd S l [] none rfl
  refine x_seq (m1 := m) (ε1 := [some h, some d, z']) ?_ (x_ret (f := fC (.bl true)) rfl)
  unfold sFor
  rw [x_rng1 (k := l.length) (x_app1 rfl ld) (by omega)]
  exact e
theorem same_refl : ∀ {k n : Nat} {d : D}, k + 1 ≤ n → dOk k d = true → F n .law_same [d, d] m = some (.bl true, m)
  | k, n, .non, h, _ => by
    obtain ⟨j, rfl, _⟩ := pred (k := k) (n := n) h
    exact Fr_law_same (x_seq (x_ifF (x_tru (bf (x_un rfl rfl) (by simp [isiB]))) x_nx) (x_seqR (x_ifT (x_t (x_bin rfl rfl rfl)) (x_ret (x_bin rfl rfl rfl)))))
  | k, n, .bl b, h, _ => by
    obtain ⟨j, rfl, _⟩ := pred (k := k) (n := n) h
    exact Fr_law_same (x_seq (x_ifF (x_tru (bf (x_un rfl rfl) (by simp [isiB]))) x_nx) (x_seq (x_ifF (x_t (x_bin rfl rfl rfl)) x_nx) (x_seqR (x_ifT (x_tru (bf (x_un rfl rfl) (by simp [isiB]))) (x_ret (x_andG (bf (x_un rfl rfl) (by simp [isiB])) (x_bin rfl rfl ((eqG_bl b b).trans (by simp)))))))))
  | k, n, .int i, h, _ => by
    obtain ⟨j, rfl, _⟩ := pred (k := k) (n := n) h
    exact Fr_law_same (x_seq (x_ifF (x_tru (bf (x_un rfl rfl) (by simp [isiB]))) x_nx) (x_seq (x_ifF (x_t (x_bin rfl rfl rfl)) x_nx) (x_seq (x_ifF (x_tru (bf (x_un rfl rfl) (by simp [isiB]))) x_nx) (x_seqR (x_ifT (x_tru (bf (x_un rfl rfl) (by simp [isiB]))) (x_ret (x_andG (bf (x_un rfl rfl) (by simp [isiB])) (x_andG (by rfl) (x_bin rfl rfl ((eqG_int i i m).trans (by simp)))))))))))
  | k, n, .str s, h, _ => by
    obtain ⟨j, rfl, _⟩ := pred (k := k) (n := n) h
    exact Fr_law_same (x_seq (x_ifF (x_tru (bf (x_un rfl rfl) (by simp [isiB]))) x_nx) (x_seq (x_ifF (x_t (x_bin rfl rfl rfl)) x_nx) (x_seq (x_ifF (x_tru (bf (x_un rfl rfl) (by simp [isiB]))) x_nx) (x_seq (x_ifF (x_tru (bf (x_un rfl rfl) (by simp [isiB]))) x_nx) (x_ret (x_andG (bf (x_un rfl rfl) (by simp [isiB])) (x_bin rfl rfl ((eqG_str s s m).trans (by simp)))))))))
  | k + 1, n, .tup l, h, hd => by
    obtain ⟨j, rfl, hj⟩ := pred (k := k + 1) (n := n) h
    rw [dOk, Bool.and_eq_true] at hd
    exact same_seq (of_decide_eq_true hd.1) rfl (by simp [isiB]) rfl rfl rfl rfl (fun i x hx => ix_get hx) (fun i x hx => ix_get hx) fun x hx => same_refl hj (List.all_eq_true.mp hd.2 x hx)
  | k + 1, n, .lst l, h, hd => by
    obtain ⟨j, rfl, hj⟩ := pred (k := k + 1) (n := n) h
    rw [dOk, Bool.and_eq_true] at hd
    exact same_seq (of_decide_eq_true hd.1) rfl (by simp [isiB]) rfl rfl rfl rfl (fun i x hx => ix_get hx) (fun i x hx => ix_get hx) fun x hx => same_refl hj (List.all_eq_true.mp hd.2 x hx)
  | 0, n, .tup l, h, hd => by simp [dOk] at hd
  | 0, n, .lst l, h, hd => by simp [dOk] at hd
  | k, n, .mr i, h, hd => by cases k <;> simp [dOk] at hd
theorem same_mr {k i : Nat} {l : List D} (h : k + 2 ≤ n) (hm : m[i]? = some l) (hd : dOk (k + 1) (.lst l) = true) : F n .law_same [.mr i, .lst l] m = some (.bl true, m) := by
  obtain ⟨j, rfl, hj⟩ := pred (k := k + 1) h
  rw [dOk, Bool.and_eq_true] at hd
  refine same_seq (of_decide_eq_true hd.1) rfl (by simp [isiB]) rfl rfl ?_ rfl (fun a x hx => ?_) (fun i x hx => ix_get hx) fun x hx => same_refl hj (List.all_eq_true.mp hd.2 x hx)
  · show m[i]?.map (fun l => D.int l.length) = _
    rw [hm]; rfl
  · show (m[i]?.bind fun l => atI l (a : Int)) = _
    rw [hm]; exact ix_get hx
/-! ### the sheet as a dict -/
theorem known_go : ∀ (qs : List (Str × D)) (acc : List (Key × D)), (qs.map Prod.fst).Nodup → (∀ q ∈ qs, ∀ a ∈ acc, a.1 ≠ .inr q.1) → acc.length + qs.length ≤ 1000 → knownD m (qs.map entD) acc = some (acc ++ qs.map fun q => (.inr q.1, q.2))
  | [], acc, _, _, _ => by simp [knownD]
  | q :: t, acc, nd, ha, hl => by
    rw [List.map_cons]
    unfold knownD
    show ((some q.2).bind fun v => (some (D.str q.1)).bind fun z => (keyD z).bind fun k => if acc.length < sizeLine then knownD m (t.map entD) (putDK acc k v) else none) = _
    simp only [Option.bind_some, keyD]
    rw [List.length_cons] at hl
    rw [if_pos (sz1000' (by omega))]
    have e : putDK acc (.inr q.1) q.2 = acc ++ [(.inr q.1, q.2)] := by
      unfold putDK
      rw [if_neg]
      simp only [List.any_eq_true, decide_eq_true_eq, not_exists, not_and]
      intro a haa
      exact ha q List.mem_cons_self a haa
    rw [e]
    rw [List.map_cons, List.nodup_cons] at nd
    rw [known_go t _ nd.2 (fun q' hq' a haa => ?_) (by simp; omega)]
    · simp
    · rcases List.mem_append.mp haa with haa | haa
      · exact ha q' (List.mem_cons_of_mem _ hq') a haa
      · rw [List.mem_singleton.mp haa]
        intro z
        have z' : q.1 = q'.1 := Sum.inr.inj z
        exact nd.1 (by rw [z']; exact List.mem_map.mpr ⟨q', hq', rfl⟩)
theorem known_sh (S : Sh r ps) : knownG [shD r ps] m = some (ps.map fun q => (.inr q.1, q.2)) := by
  show knownD m (ps.map entD) [] = _
  rw [known_go ps [] S.nd (by simp) (by have := S.len; simp; omega)]
  simp
theorem val_known (nm : Str) : ∀ qs : List (Str × D), valDK (qs.map fun q => ((.inr q.1 : Key), q.2)) (.inr nm) = findE qs nm
  | [] => rfl
  | q :: t => by
    have ih := val_known nm t
    unfold valDK findE at ih ⊢
    rw [List.map_cons]
    by_cases h : q.1 = nm
    · simp [h]
    · have h' : ¬ ((.inr q.1 : Key) = .inr nm) := fun z => h (Sum.inr.inj z)
      simp [h, h']
      simpa using ih
theorem x_kget (S : Sh r ps) {fs : FA} {fi : DL.F} {ε : Ev} {nm : Str} {t : D} (h1 : fs ε m = some ([shD r ps], m)) (h2 : fi ε m = some (.str nm, m)) (h3 : findE ps nm = some t) : fKGet knownG fs fi ε m = some (t, m) := by
  unfold fKGet
  rw [h1]; simp only [Option.bind_some]
  rw [known_sh S]; simp only [Option.bind_some]
  rw [h2]; simp only [Option.bind_some, keyD]
  rw [val_known, h3]; rfl
/-! ### places by the law -/
theorem ev_lplaces (S : Sh r ps) (h : 20 ≤ n) : F n .law_places [shD r ps] m = some (.lst ((spotsL ps).map spotD), m) := by
  obtain ⟨j, rfl, hj⟩ := pred h
  refine Fr_law_places (x_seq (ε1 := [some (shD r ps), some (.lst []), none, none]) (m1 := m) (by
    show (Option.map _ (if ([] : List D).length ≤ sizeLine then some (D.lst [], m) else none)) = _
    rw [if_pos (sz1000 (by simp))]; rfl) ?_)
  have loop : ∀ (qs : List (Str × D)) (acc : List (Str × List Int)) (z2 z3 : Option D), (∀ q ∈ qs, q ∈ ps) → acc.length + 300 * qs.length ≤ 30000 → ∃ z2', loopD (DL.stN 2) (sSet 1 (fBin addG (fV 1) (fLc (fItems (fCall (F j .law_paths) (faCons (fBin ixG (fV 2) (fC (.int 1))) (faCons (fTup (faNil)) (faNil))))) (DL.stN 3) (fYes) (fTup (faCons (fBin ixG (fV 2) (fC (.int 0))) (faCons (fV 3) (faNil)))) [3])))
      (qs.map entD) [some (shD r ps), some (.lst (acc.map spotD)), z2, z3] m = some (.nx [some (shD r ps), some (.lst ((acc ++ spotsL qs).map spotD)), z2', z3] m) := by
    intro qs
    induction qs with
    | nil => intro acc z2 z3 _ _; exact ⟨z2, by simp [spotsL]; rfl⟩
    | cons q t ih =>
      intro acc z2 z3 hq hl
      have hqp := hq q List.mem_cons_self
      have pc := S.pc q hqp
      rw [List.length_cons] at hl
      obtain ⟨z2', el⟩ := ih (acc ++ (pathsL 12 q.2).map fun x => (q.1, x)) (some (entD q)) z3 (fun x hx => hq x (List.mem_cons_of_mem _ hx)) (by rw [List.length_append, List.length_map]; omega)
      refine ⟨z2', ?_⟩
      rw [List.map_cons]
      unfold loopD
      show ((sSet 1 _ [some (shD r ps), some (.lst (acc.map spotD)), some (entD q), z3] m).bind _) = _
      have hc : fItems (fCall (F j .law_paths) (faCons (fBin ixG (fV 2) (fC (.int 1))) (faCons (fTup (faNil)) (faNil)))) [some (shD r ps), some (.lst (acc.map spotD)), some (entD q), z3] m = some ((pathsL 12 q.2).map pD, m) := by
        have := ev_lpaths (n := j) (m := m) (pre0 := []) (by omega) (by omega) (by simp) (tm_of (S.tm q hqp)) (S.smT hqp) (by omega)
        simp only [List.nil_append] at this
        refine x_items (x_call2 (b := .tup []) (x_bin rfl rfl rfl) ?_ this) rfl
        show (if ([] : List D).length ≤ sizeLine then some (D.tup [], m) else none) = _
        rw [if_pos (sz1000 (by simp))]
      have hlc : fLc (fItems (fCall (F j .law_paths) (faCons (fBin ixG (fV 2) (fC (.int 1))) (faCons (fTup (faNil)) (faNil))))) (DL.stN 3) (fYes) (fTup (faCons (fBin ixG (fV 2) (fC (.int 0))) (faCons (fV 3) (faNil)))) [3] [some (shD r ps), some (.lst (acc.map spotD)), some (entD q), z3] m = some (.lst (((pathsL 12 q.2).map pD).map fun x => .tup [.str q.1, x]), m) := by
        refine fLc_run hc (fun x hx => ?_) (by rw [List.length_map]; exact sz1000' (by omega))
        show (if ([D.str q.1, x] : List D).length ≤ sizeLine then some (D.tup [.str q.1, x], m) else none) = _
        rw [if_pos (sz1000 (by simp))]
      rw [x_set (d := .lst ((acc ++ (pathsL 12 q.2).map fun x => (q.1, x)).map spotD)) (m1 := m) (x_bin rfl hlc (by
        show (if _ + _ ≤ sizeLine then some (D.lst (_ ++ _)) else none) = _
        rw [if_pos (Nat.le_trans (show _ ≤ 30000 by simp; omega) (by decide))]
        simp [spotD, Function.comp_def]))]
      simp only [Option.bind_some]
      refine Eq.trans el ?_
      congr 4
      simp [spotsL]
  have hsl := S.len
  obtain ⟨z2', el⟩ := loop ps [] none none (fun q h => h) (by simp; omega)
  simp only [List.nil_append, List.map_nil] at el
  refine x_seq (m1 := m) (ε1 := [some (shD r ps), some (.lst ((spotsL ps).map spotD)), z2', none]) ?_ (x_ret rfl)
  unfold sFor
  rw [x_items (x_bin rfl rfl rfl) rfl]
  exact el
end
end KK
end
section
set_option Elab.async false
set_option linter.all false
set_option maxRecDepth 100000
namespace KK
open PySem PySem.Spec PyProof.Rows L2 DL
section
variable {n : Nat} {m : M} {r : Str} {ps : List (Str × D)}
/-! ### a value put at a place -/
theorem toPys_ints : ∀ q : List Int, toPys (q.map .int) = some (q.map PyData.int)
  | [] => rfl
  | i :: t => by
    show (toPy (.int i)).bind _ = _
    rw [toPy]
    simp only [Option.bind_some, toPys_ints t]
    rfl
theorem lay_ints : ∀ q : List Int, PyData.canLayAll0 (q.map PyData.int) = true
  | [] => rfl
  | i :: t => by
    show (PyData.canLay0 (.int i) && PyData.canLayAll0 (t.map PyData.int)) = true
    rw [lay_ints t]; rfl
theorem dep_ints : ∀ q : List Int, PyData.depthAll (q.map PyData.int) = 0
  | [] => rfl
  | i :: t => by
    show max (PyData.depth (.int i)) (PyData.depthAll (t.map PyData.int)) = 0
    rw [dep_ints t]; rfl
theorem eqv_nil (q : List Int) : PyData.eqvAll (q.map PyData.int) [] = q.isEmpty := by cases q <;> rfl
theorem pyOf_tup (q : List Int) : pyOf m (pD q) = some (.tuple (q.map PyData.int)) := by
  unfold pyOf
  show ((toPy (pD q)).bind _) = _
  rw [show toPy (pD q) = some (.tuple (q.map PyData.int)) by unfold pD; rw [toPy, toPys_ints]; rfl]
  simp only [Option.bind_some]
  rw [if_pos]
  show (PyData.canLayAll0 _ && decide (PyData.depthAll _ + 1 ≤ 64)) = true
  rw [lay_ints, dep_ints]; rfl
theorem pyOf_lst {k : Nat} {q : List Int} (h : m[k]? = some (q.map .int)) : pyOf m (.mr k) = some (.list (q.map PyData.int)) := by
  unfold pyOf
  show (((m[k]?.map D.lst).bind toPy).bind _) = _
  rw [h]
  show ((toPy (.lst (q.map .int))).bind _) = _
  rw [show toPy (.lst (q.map .int)) = some (.list (q.map PyData.int)) by rw [toPy, toPys_ints]; rfl]
  simp only [Option.bind_some]
  rw [if_pos]
  show (PyData.canLayAll0 _ && decide (PyData.depthAll _ + 1 ≤ 64)) = true
  rw [lay_ints, dep_ints]; rfl
theorem eq_unit (q : List Int) : eqG (pD q) (.tup []) m = some (.bl q.isEmpty) := by
  show ((eqF (pD q) (.tup [])).or (eqP (pD q) (.tup []) m)).map D.bl = _
  have h1 : eqF (pD q) (.tup []) = none := rfl
  have h2 : eqP (pD q) (.tup []) m = some q.isEmpty := by
    unfold eqP
    rw [pyOf_tup]
    rw [show pyOf m (.tup []) = some (.tuple []) from pyOf_tup []]
    show some (PyData.eqvAll (q.map PyData.int) []) = _
    rw [eqv_nil]
  rw [h1, h2]; rfl
theorem eq_nil {k : Nat} {q : List Int} (h : m[k]? = some (q.map .int)) : eqG (.mr k) (.lst []) m = some (.bl q.isEmpty) := by
  show ((eqF (.mr k) (.lst [])).or (eqP (.mr k) (.lst []) m)).map D.bl = _
  have h1 : eqF (.mr k) (.lst []) = none := rfl
  have h2 : eqP (.mr k) (.lst []) m = some q.isEmpty := by
    unfold eqP
    rw [pyOf_lst h]
    have : pyOf m (.lst []) = some (.list []) := by rfl
    rw [this]
    show some (PyData.eqvAll (q.map PyData.int) []) = _
    rw [eqv_nil]
  rw [h1, h2]; rfl
theorem cut_to {l : List D} {i : Nat} (h : i ≤ l.length) : DL.cutD l none (some (i : Int)) = l.take i := by
  unfold DL.cutD HT.sIx
  simp only
  rw [if_neg (by omega)]
  have : min (i : Int).toNat l.length = i := by simp; omega
  rw [this]
  simp
theorem cut_from {l : List D} {i : Nat} (h : i ≤ l.length) : DL.cutD l (some (i : Int)) none = l.drop i := by
  unfold DL.cutD HT.sIx
  simp only
  rw [if_neg (by omega)]
  have : min (i : Int).toNat l.length = i := by simp; omega
  rw [this]
  exact List.take_of_length_le (by rw [List.length_drop]; exact Nat.le_refl _)
def repl (l : List D) (i : Nat) (x : D) : List D := l.take i ++ [x] ++ l.drop (i + 1)
def way2 (w x : D) : D := match w with | .tup [a, b, _] => .tup [a, b, x] | _ => .non
def putD : D → List Int → D → D
  | _, [], new => new
  | t, i :: q, new =>
    let p := ((partsD t)[i.toNat]?).getD .non
    match t with
    | .tup [.str w, x, y] => if (w = "counted" ∨ w = "sized") ∧ i = 0 then .tup [.str w, putD p q new, y] else .tup [.str w, x, putD p q new]
    | .tup [.str w, .tup ts] => if w = "either" then .tup [.str w, .tup (repl ts i.toNat (way2 ((ts[i.toNat]?).getD .non) (putD p q new)))] else .tup [.str w, .tup (repl ts i.toNat (putD p q new))]
    | _ => .non
theorem x_tup2 {f g : DL.F} {ε : Ev} {a b : D} {m1 m2 : M} (h1 : f ε m = some (a, m1)) (h2 : g ε m1 = some (b, m2)) : fTup (faCons f (faCons g faNil)) ε m = some (.tup [a, b], m2) := by
  unfold fTup faCons faNil
  rw [h1]; simp only [Option.bind_some]; rw [h2]; simp only [Option.map_some, Option.bind_some]
  rw [if_pos (sz1000 (by simp))]
theorem x_tup1 {f : DL.F} {ε : Ev} {a : D} {m1 : M} (h1 : f ε m = some (a, m1)) : fTup (faCons f faNil) ε m = some (.tup [a], m1) := by
  unfold fTup faCons faNil
  rw [h1]; simp only [Option.map_some, Option.bind_some]
  rw [if_pos (sz1000 (by simp))]
theorem x_tup3 {f g e : DL.F} {ε : Ev} {a b c : D} {m1 m2 m3 : M} (h1 : f ε m = some (a, m1)) (h2 : g ε m1 = some (b, m2)) (h3 : e ε m2 = some (c, m3)) : fTup (faCons f (faCons g (faCons e faNil))) ε m = some (.tup [a, b, c], m3) := by
  unfold fTup faCons faNil
  rw [h1]; simp only [Option.bind_some]; rw [h2]; simp only [Option.bind_some]; rw [h3]; simp only [Option.map_some, Option.bind_some]
  rw [if_pos (sz1000 (by simp))]
theorem x_sl_to {f : DL.F} {g : DL.F} {ε : Ev} {l : List D} {i : Nat} (h : f ε m = some (.tup l, m)) (h2 : g ε m = some (.int i, m)) (hi : i ≤ l.length) : fSl f foN (foS g) ε m = some (.tup (l.take i), m) := by
  unfold fSl foN foS
  rw [h]; simp only [Option.bind_some]; rw [h2]; simp only [Option.bind_some, slG, Option.map_some]
  rw [cut_to hi]
theorem x_sl_from {f : DL.F} {g : DL.F} {ε : Ev} {l : List D} {i : Nat} (h : f ε m = some (.tup l, m)) (h2 : g ε m = some (.int i, m)) (hi : i ≤ l.length) : fSl f (foS g) foN ε m = some (.tup (l.drop i), m) := by
  unfold fSl foN foS
  rw [h]; simp only [Option.bind_some]; rw [h2]; simp only [Option.bind_some, slG, Option.map_some]
  rw [cut_from hi]
theorem add_tup {a b : List D} (h : a.length + b.length ≤ 2000) : addG (.tup a) (.tup b) m = some (.tup (a ++ b)) := by
  show (if _ then _ else _) = _
  rw [if_pos (Nat.le_trans h (by decide))]
theorem ev_put : ∀ {q : List Int} {k n : Nat} {t u new : D} {m : M}, q.length + 2 ≤ n → Tm k t → smD t = true → atD t q = some u → F n .law_put [t, pD q, new] m = some (putD t q new, m)
  | [], k, n, t, u, new, m, h, T, hs, ha => by
    obtain ⟨j, rfl, hj⟩ := pred (k := 1) h
    exact Fr_law_put (x_seqR (x_ifT (x_t (x_bin rfl rfl (eq_unit []))) (x_ret rfl)))
  | i :: q, k, n, t, u, new, m, h, T, hs, ha => by
    obtain ⟨j, rfl, hj⟩ := pred (k := q.length + 2) (by simpa using h)
    have ha : (if 0 ≤ i then (partsD t)[i.toNat]?.bind fun p => atD p q else none) = some u := ha
    split at ha
    case isFalse => cases ha
    rename_i hi
    cases k with
    | zero => cases T
    | succ k =>
    have hp := sm_parts T hs
    cases e3 : (partsD t)[i.toNat]? with
    | none => rw [e3] at ha; cases ha
    | some p =>
    rw [e3] at ha
    have hm := List.mem_of_getElem? e3
    have ih := ev_put (q := q) (n := j) (new := new) (m := m) (by omega) (tm_parts T p hm) (hp.2 p hm) ha
    have hlt : i.toNat < (partsD t).length := (List.getElem?_eq_some_iff.mp e3).1
    have ei : (i.toNat : Int) = i := Int.toNat_of_nonneg hi
    refine Fr_law_put (x_seq (x_ifF (x_t (x_bin rfl rfl (eq_unit (i :: q)))) x_nx) (x_seq (x_set (x_call1 rfl (ev_lparts (by omega) T (sz1000' hp.1)))) (x_seq (x_set (d := putD p q new) (m1 := m) (x_call3 (a := p) (b := pD q) (e := new) (m2 := m) (x_bin (b := .int i) (m1 := m) rfl (x_bin rfl rfl (ix_0 _ _ _)) ((atI_nn hi).trans e3)) (x_sl_from (l := (i :: q).map .int) (i := 1) rfl rfl (by simp)) rfl ih)) ?_)))
    show (sSeq _ _ [some t, some (pD (i :: q)), some new, some (.lst (partsD t)), some (putD p q new), none] m) = _
    have fi : ∀ z5, fBin ixG (fV 1) (fC (.int 0)) [some t, some (pD (i :: q)), some new, some (.lst (partsD t)), some (putD p q new), z5] m = some (.int (i.toNat : Nat), m) := fun z5 => by
      rw [ei]; exact x_bin rfl rfl (ix_0 _ _ _)
    have fi1 : ∀ z5, fBin addG (fBin ixG (fV 1) (fC (.int 0))) (fC (.int 1)) [some t, some (pD (i :: q)), some new, some (.lst (partsD t)), some (putD p q new), z5] m = some (.int ((i.toNat + 1 : Nat) : Int), m) := fun z5 => x_bin (fi z5) rfl rfl
    have gp : ((partsD t)[i.toNat]?).getD .non = p := by rw [e3]; rfl
    have w0 : ∀ {w : Str} {x : List D} (z : Str) z5, t = .tup (.str w :: x) → fBin eqG (fBin ixG (fV 0) (fC (.int 0))) (fC (.str z)) [some t, some (pD (i :: q)), some new, some (.lst (partsD t)), some (putD p q new), z5] m = some (.bl (decide (w = z)), m) := fun z z5 et => by
      subst et; exact x_bin (x_bin rfl rfl (ix_0 _ _ _)) rfl (eqG_str _ _ _)
    cases T with
    | leaf hw => rw [pd_leaf _ hw] at hlt; simp at hlt
    | ref => exact absurd hlt (by show ¬ i.toNat < 0; omega)
    | row hh =>
      rename_i ts
      rw [pd_row] at hlt hp
      have f1 : ∀ z5, fBin ixG (fV 0) (fC (.int 1)) [some (.tup [.str "row", .tup ts]), some (pD (i :: q)), some new, some (.lst ts), some (putD p q new), z5] m = some (.tup ts, m) := fun z5 => x_bin rfl rfl rfl
      refine x_seqR (x_ifT (x_t (bf (w0 "row" none rfl) (by simp))) (x_ret ?_))
      have e : putD (.tup [.str "row", .tup ts]) (i :: q) new = .tup [.str "row", .tup (repl ts i.toNat (putD p q new))] := by
        conv => lhs; unfold putD
        simp only [gp]
        rw [if_neg (by decide +kernel)]
      rw [e]
      refine x_tup2 rfl (x_bin (x_bin (x_sl_to (f1 _) (fi _) (by omega)) (x_tup1 rfl) (add_tup (by simp; have := hp.1; omega))) (x_sl_from (f1 _) (fi1 _) (by omega)) (add_tup (by simp; have := hp.1; omega)))
    | either hh =>
      rename_i zs
      rw [pd_either] at hlt hp
      have hW : ∃ a b c, (zs.map fun p => D.tup [p.1, p.2.1, p.2.2])[i.toNat]? = some (.tup [a, b, c]) := by
        rw [List.length_map] at hlt
        exact ⟨_, _, _, by rw [List.getElem?_map, List.getElem?_eq_getElem hlt]; rfl⟩
      obtain ⟨a, b, c, hW⟩ := hW
      have hlen : (zs.map fun p => D.tup [p.1, p.2.1, p.2.2]).length = (zs.map fun p => p.2.2).length := by simp
      revert hW hlen
      generalize hWW : (zs.map fun p => D.tup [p.1, p.2.1, p.2.2]) = W
      intro hW hlen
      have f1 : ∀ z5, fBin ixG (fV 0) (fC (.int 1)) [some (.tup [.str "either", .tup W]), some (pD (i :: q)), some new, some (.lst (partsD (.tup [.str "either", .tup W]))), some (putD p q new), z5] m = some (.tup W, m) := fun z5 => x_bin rfl rfl rfl
      rw [hWW] at fi fi1 w0 e3 gp
      have w0 := @w0
      refine x_seq (x_ifF (x_t (bf (w0 "row" none rfl) (by decide +kernel))) x_nx) (x_seqR (x_ifT (x_t (bf (w0 "either" none rfl) (by simp))) (x_seq (ε1 := [some (.tup [.str "either", .tup W]), some (pD (i :: q)), some new, some (.lst (partsD (.tup [.str "either", .tup W]))), some (putD p q new), some (.tup [a, b, c])]) (m1 := m) (x_set (i := 5) (x_bin (f1 _) (fi _) (ix_get hW))) (x_ret ?_))))
      have e : putD (.tup [.str "either", .tup W]) (i :: q) new = .tup [.str "either", .tup (repl W i.toNat (.tup [a, b, putD p q new]))] := by
        conv => lhs; unfold putD
        simp only [gp]
        rw [if_pos (by decide +kernel), hW]
        rfl
      rw [e]
      exact x_tup2 rfl (x_bin (x_bin (x_sl_to (f1 _) (fi _) (by omega)) (x_tup1 (x_tup3 (x_bin rfl rfl rfl) (x_bin rfl rfl rfl) rfl)) (add_tup (by simp; have := hp.1; omega))) (x_sl_from (f1 _) (fi1 _) (by omega)) (add_tup (by simp; have := hp.1; omega)))
    | two hw hx hy =>
      rename_i w x y
      have hne : decide (w = "row") = false ∧ decide (w = "either") = false := by rcases hw with rfl | rfl <;> exact ⟨by decide +kernel, by decide +kernel⟩
      have hin : ∀ z5, fT (fBin inG (fBin ixG (fV 0) (fC (.int 0))) (fLst (faCons (fC (.str (Str.ofString "counted"))) (faCons (fC (.str (Str.ofString "sized"))) (faNil))))) [some (.tup [.str w, x, y]), some (pD (i :: q)), some new, some (.lst (partsD (.tup [.str w, x, y]))), some (putD p q new), z5] m = some (true, m) := fun z5 => by
        rcases hw with rfl | rfl <;> rfl
      refine x_seq (x_ifF (x_t (bf (w0 "row" none rfl) hne.1)) x_nx) (x_seq (x_ifF (x_t (bf (w0 "either" none rfl) hne.2)) x_nx) ?_)
      have t0 := x_andTT (hin none) (x_t (x_bin (fi none) (fb := fC (.int 0)) rfl (eqG_int _ 0 m)))
      by_cases hi0 : i = 0
      · have e : putD (.tup [.str w, x, y]) (i :: q) new = .tup [.str w, putD p q new, y] := by
          conv => lhs; unfold putD
          simp only [gp]
          rcases hw with rfl | rfl <;> simp [hi0]
        rw [e]
        exact x_seqR (x_ifT (bt t0 (by simp [hi0])) (x_ret (x_tup3 (x_bin rfl rfl rfl) rfl (x_bin rfl rfl rfl))))
      · have e : putD (.tup [.str w, x, y]) (i :: q) new = .tup [.str w, x, putD p q new] := by
          conv => lhs; unfold putD
          simp only [gp]
          cases x <;> simp [hi0]
        rw [e]
        exact x_seq (x_ifF (bt t0 (by simp; omega)) x_nx) (x_ret (x_tup3 (x_bin rfl rfl rfl) (x_bin rfl rfl rfl) rfl))
    | one hw hy =>
      rename_i w x y
      have hne : decide (w = "row") = false ∧ decide (w = "either") = false := by rcases hw with rfl | rfl | rfl <;> exact ⟨by decide +kernel, by decide +kernel⟩
      have hin : ∀ z5, fT (fBin inG (fBin ixG (fV 0) (fC (.int 0))) (fLst (faCons (fC (.str (Str.ofString "counted"))) (faCons (fC (.str (Str.ofString "sized"))) (faNil))))) [some (.tup [.str w, x, y]), some (pD (i :: q)), some new, some (.lst (partsD (.tup [.str w, x, y]))), some (putD p q new), z5] m = some (false, m) := fun z5 => by
        rcases hw with rfl | rfl | rfl <;> rfl
      refine x_seq (x_ifF (x_t (bf (w0 "row" none rfl) hne.1)) x_nx) (x_seq (x_ifF (x_t (bf (w0 "either" none rfl) hne.2)) x_nx) ?_)
      have e : putD (.tup [.str w, x, y]) (i :: q) new = .tup [.str w, x, putD p q new] := by
        conv => lhs; unfold putD
        simp only [gp]
        have hns : ¬ (w = "counted" ∨ w = "sized") := by rcases hw with rfl | rfl | rfl <;> decide +kernel
        cases x <;> simp [hns]
      rw [e]
      exact x_seq (x_ifF (x_andTF (hin none)) x_nx) (x_ret (x_tup3 (x_bin rfl rfl rfl) (x_bin rfl rfl rfl) rfl))
def laidL (ps : List (Str × D)) (nm : Str) (q : List Int) (new : D) : List (Str × D) := ps.map fun p => if p.1 = nm then (p.1, putD p.2 q new) else p
theorem findE_same : ∀ {qs : List (Str × D)} {nm : Str} {t : D} {p : Str × D}, (qs.map Prod.fst).Nodup → findE qs nm = some t → p ∈ qs → p.1 = nm → p.2 = t
  | x :: r, nm, t, p, nd, hf, hp, e => by
    rw [List.map_cons, List.nodup_cons] at nd
    by_cases hx : x.1 = nm
    · have h1 : x.2 = t := by simpa [findE, hx] using hf
      rcases List.mem_cons.mp hp with rfl | hp
      · exact h1
      · exact absurd (List.mem_map.mpr ⟨p, hp, by rw [e, hx]⟩) nd.1
    · have h1 : findE r nm = some t := by simpa [findE, hx] using hf
      rcases List.mem_cons.mp hp with rfl | hp
      · exact absurd e hx
      · exact findE_same nd.2 h1 hp e
theorem ev_laid (S : Sh r ps) (h : 30 ≤ n) {nm : Str} {t u new : D} {q : List Int} (hf : findE ps nm = some t) (ha : atD t q = some u) (hq : q.length ≤ 12) : F n .law_laid [shD r ps, spotD (nm, q), new] m = some (shD r (laidL ps nm q new), m) := by
  obtain ⟨j, rfl, hj⟩ := pred h
  refine Fr_law_laid (x_seq (ε1 := [some (shD r ps), some (spotD (nm, q)), some new, some (.tup []), none]) (m1 := m) (by
    show (Option.map _ (if ([] : List D).length ≤ sizeLine then some (D.tup [], m) else none)) = _
    rw [if_pos (sz1000 (by simp))]; rfl) ?_)
  have loop : ∀ (qs : List (Str × D)) (acc : List (Str × D)) (z4 : Option D), (∀ p ∈ qs, p ∈ ps) → acc.length + qs.length ≤ 1000 → ∃ z4', loopD (DL.stN 4) (sIf (fT (fBin eqG (fBin ixG (fV 4) (fC (.int 0))) (fBin ixG (fV 1) (fC (.int 0))))) (sSet 3 (fBin addG (fV 3) (fTup (faCons (fTup (faCons (fBin ixG (fV 4) (fC (.int 0))) (faCons (fCall (F j .law_put) (faCons (fBin ixG (fV 4) (fC (.int 1))) (faCons (fBin ixG (fV 1) (fC (.int 1))) (faCons (fV 2) (faNil))))) (faNil)))) (faNil))))) (sSet 3 (fBin addG (fV 3) (fTup (faCons (fV 4) (faNil))))))
      (qs.map entD) [some (shD r ps), some (spotD (nm, q)), some new, some (.tup (acc.map entD)), z4] m = some (.nx [some (shD r ps), some (spotD (nm, q)), some new, some (.tup ((acc ++ laidL qs nm q new).map entD)), z4'] m) := by
    intro qs
    induction qs with
    | nil => intro acc z4 _ _; exact ⟨z4, by simp [laidL]; rfl⟩
    | cons p rest ih =>
      intro acc z4 hqs hl
      rw [List.length_cons] at hl
      have hp := hqs p List.mem_cons_self
      obtain ⟨z4', el⟩ := ih (acc ++ [if p.1 = nm then (p.1, putD p.2 q new) else p]) (some (entD p)) (fun x hx => hqs x (List.mem_cons_of_mem _ hx)) (by rw [List.length_append]; simp; omega)
      refine ⟨z4', ?_⟩
      rw [List.map_cons]
      unfold loopD
      show ((sIf _ _ _ [some (shD r ps), some (spotD (nm, q)), some new, some (.tup (acc.map entD)), some (entD p)] m).bind _) = _
      have e1 : fT (fBin eqG (fBin ixG (fV 4) (fC (.int 0))) (fBin ixG (fV 1) (fC (.int 0)))) [some (shD r ps), some (spotD (nm, q)), some new, some (.tup (acc.map entD)), some (entD p)] m = some (decide (p.1 = nm), m) := x_t (x_bin (x_bin rfl rfl rfl) (x_bin rfl rfl rfl) (eqG_str _ _ _))
      have fin : acc.map entD ++ [entD (if p.1 = nm then (p.1, putD p.2 q new) else p)] = (acc ++ [if p.1 = nm then (p.1, putD p.2 q new) else p]).map entD := by simp
      have body : sIf (fT (fBin eqG (fBin ixG (fV 4) (fC (.int 0))) (fBin ixG (fV 1) (fC (.int 0))))) (sSet 3 (fBin addG (fV 3) (fTup (faCons (fTup (faCons (fBin ixG (fV 4) (fC (.int 0))) (faCons (fCall (F j .law_put) (faCons (fBin ixG (fV 4) (fC (.int 1))) (faCons (fBin ixG (fV 1) (fC (.int 1))) (faCons (fV 2) (faNil))))) (faNil)))) (faNil))))) (sSet 3 (fBin addG (fV 3) (fTup (faCons (fV 4) (faNil)))))
          [some (shD r ps), some (spotD (nm, q)), some new, some (.tup (acc.map entD)), some (entD p)] m = some (.nx [some (shD r ps), some (spotD (nm, q)), some new, some (.tup ((acc ++ [if p.1 = nm then (p.1, putD p.2 q new) else p]).map entD)), some (entD p)] m) := by
        rw [← fin]
        by_cases hn : p.1 = nm
        · have h2 := findE_same S.nd hf hp hn
          rw [if_pos hn]
          exact x_ifT (bt e1 (decide_eq_true hn)) (x_set (i := 3) (x_bin rfl (x_tup1 (x_tup2 (x_bin rfl rfl rfl) (x_call3 (x_bin rfl rfl rfl) (x_bin rfl rfl rfl) rfl (ev_put (by show q.length + 2 ≤ j; omega) (tm_of (S.tm p hp)) (S.smT hp) (by rw [h2]; exact ha))))) (add_tup (by simp; omega))))
        · rw [if_neg hn]
          exact x_ifF (bt e1 (decide_eq_false hn)) (x_set (i := 3) (x_bin rfl (x_tup1 rfl) (add_tup (by simp; omega))))
      rw [body]
      simp only [Option.bind_some]
      refine Eq.trans el ?_
      congr 4
      simp [laidL]
  obtain ⟨z4', el⟩ := loop ps [] none (fun p h => h) (by have := S.len; simp; omega)
  simp only [List.nil_append, List.map_nil] at el
  refine x_seq (m1 := m) (ε1 := [some (shD r ps), some (spotD (nm, q)), some new, some (.tup ((laidL ps nm q new).map entD)), z4']) ?_ (x_ret (x_tup2 (x_bin rfl rfl rfl) rfl))
  unfold sFor
  rw [x_items (x_bin rfl rfl rfl) rfl]
  exact el
end
end KK
end
section
set_option Elab.async false
set_option linter.all false
set_option maxRecDepth 100000
namespace KK
open PySem PySem.Spec PyProof.Rows L2 DL
/-! ### mathematics of terms -/
theorem tw_row (k : Nat) (ts : List D) : tw (k + 1) (.tup [.str "row", .tup ts]) = ts.all (tw k) := rfl
theorem tw_either (k : Nat) (ws : List D) : tw (k + 1) (.tup [.str "either", .tup ws]) = (ws.all (wayB (tw k)) && distinctB ws) := rfl
theorem tw_counted (k : Nat) (x y : D) : tw (k + 1) (.tup [.str "counted", x, y]) = (tw k x && tw k y) := rfl
theorem tw_sized (k : Nat) (x y : D) : tw (k + 1) (.tup [.str "sized", x, y]) = (tw k x && tw k y) := rfl
theorem tw_times (k : Nat) (x y : D) : tw (k + 1) (.tup [.str "times", x, y]) = (withinB x 0 8 && tw k y) := rfl
theorem tw_until (k : Nat) (x y : D) : tw (k + 1) (.tup [.str "until", x, y]) = (bitsB x 1 6 && tw k y) := rfl
theorem tw_checked (k : Nat) (x y : D) : tw (k + 1) (.tup [.str "checked", x, y]) = (machB x && tw k y) := rfl
theorem tw_ref (k : Nat) (x : D) : tw (k + 1) (.tup [.str "ref", x]) = nameB x := rfl
theorem tw_bits (k : Nat) (x : D) : tw (k + 1) (.tup [.str "bits", x]) = bitsB x 0 400 := rfl
theorem tw_width (k : Nat) (x : D) : tw (k + 1) (.tup [.str "width", x]) = withinB x 0 8 := rfl
theorem tw_table (k : Nat) (x : D) : tw (k + 1) (.tup [.str "table", x]) = tableB x := rfl
def tw1 (w : Str) (x : D) : Bool := if w = "times" then withinB x 0 8 else if w = "until" then bitsB x 1 6 else machB x
theorem tw_one (k : Nat) {w : Str} (x y : D) (hw : w = "times" ∨ w = "until" ∨ w = "checked") : tw (k + 1) (.tup [.str w, x, y]) = (tw1 w x && tw k y) := by
  rcases hw with rfl | rfl | rfl
  · rw [tw_times]; rfl
  · rw [tw_until]; rfl
  · rw [tw_checked]; rfl
theorem tw_two (k : Nat) {w : Str} (x y : D) (hw : w = "counted" ∨ w = "sized") : tw (k + 1) (.tup [.str w, x, y]) = (tw k x && tw k y) := by
  rcases hw with rfl | rfl
  · rw [tw_counted]
  · rw [tw_sized]
theorem pt_row (i : Int) (q : List Int) (ts : List D) (new : D) : putD (.tup [.str "row", .tup ts]) (i :: q) new = .tup [.str "row", .tup (repl ts i.toNat (putD ((ts[i.toNat]?).getD .non) q new))] := by
  conv => lhs; unfold putD
  simp only [pd_row]
  rw [if_neg (by decide +kernel)]
theorem pt_either (i : Int) (q : List Int) (W : List D) (new : D) : putD (.tup [.str "either", .tup W]) (i :: q) new = .tup [.str "either", .tup (repl W i.toNat (way2 ((W[i.toNat]?).getD .non) (putD (((partsD (.tup [.str "either", .tup W]))[i.toNat]?).getD .non) q new)))] := by
  conv => lhs; unfold putD
  simp only []
  rw [if_pos trivial]
theorem pt_two0 {w : Str} (i : Int) (q : List Int) (x y new : D) (hw : w = "counted" ∨ w = "sized") (h : i = 0) : putD (.tup [.str w, x, y]) (i :: q) new = .tup [.str w, putD x q new, y] := by
  subst h
  conv => lhs; unfold putD
  simp only [pd_two _ _ hw]
  cases x <;> simp [hw]
theorem pt_two1 {w : Str} (i : Int) (q : List Int) (x y new : D) (hw : w = "counted" ∨ w = "sized") (h : i = 1) : putD (.tup [.str w, x, y]) (i :: q) new = .tup [.str w, x, putD y q new] := by
  subst h
  conv => lhs; unfold putD
  simp only [pd_two _ _ hw]
  cases x <;> simp
theorem pt_one {w : Str} (i : Int) (q : List Int) (x y new : D) (hw : w = "times" ∨ w = "until" ∨ w = "checked") (h : i = 0) : putD (.tup [.str w, x, y]) (i :: q) new = .tup [.str w, x, putD y q new] := by
  subst h
  have hns : ¬ (w = "counted" ∨ w = "sized") := by rcases hw with rfl | rfl | rfl <;> decide +kernel
  conv => lhs; unfold putD
  simp only [pd_one _ _ hw]
  cases x <;> simp [hns]
theorem repl_mem {l : List D} {i : Nat} {x : D} : x ∈ repl l i x := by unfold repl; simp
theorem repl_mem' {l : List D} {i : Nat} {x y : D} (h : y ∈ repl l i x) : y = x ∨ y ∈ l := by
  unfold repl at h
  rcases List.mem_append.mp h with h | h
  · rcases List.mem_append.mp h with h | h
    · exact .inr (List.mem_of_mem_take h)
    · exact .inl (List.mem_singleton.mp h)
  · exact .inr (List.mem_of_mem_drop h)
theorem repl_len {l : List D} {i : Nat} {x : D} (h : i < l.length) : (repl l i x).length = l.length := by
  unfold repl
  simp
  omega
/-- the inversion of a step -/
theorem at_cons {k : Nat} {t u : D} {i : Int} {q : List Int} (h : atD t (i :: q) = some u) : 0 ≤ i ∧ ∃ p, (partsD t)[i.toNat]? = some p ∧ atD p q = some u := by
  have h : (if 0 ≤ i then (partsD t)[i.toNat]?.bind fun p => atD p q else none) = some u := h
  split at h
  · rename_i hi
    cases e : (partsD t)[i.toNat]? with
    | none => rw [e] at h; cases h
    | some p => rw [e] at h; exact ⟨hi, p, rfl, h⟩
  · cases h
theorem way_mid {zs : List (D × D × D)} {i : Nat} {p : D} (h : (zs.map fun p => p.2.2)[i]? = some p) : ∃ a b, (zs.map fun p => D.tup [p.1, p.2.1, p.2.2])[i]? = some (.tup [a, b, p]) := by
  rw [List.getElem?_map] at h
  cases e : zs[i]? with
  | none => rw [e] at h; cases h
  | some z =>
    rw [e] at h
    cases h
    exact ⟨z.1, z.2.1, by rw [List.getElem?_map, e]; rfl⟩
theorem put_bad : ∀ {q : List Int} {k : Nat} {t u new : D}, Tm k t → k ≤ 12 → atD t q = some u → (∀ j ≤ 12, tw j new = false) → tw k (putD t q new) = false
  | [], k, t, u, new, T, hk, ha, hb => hb k hk
  | i :: q, k, t, u, new, T, hk, ha, hb => by
    obtain ⟨hi, p, e3, hap⟩ := at_cons (k := k) ha
    cases T with
    | leaf hw => rw [pd_leaf _ hw] at e3; cases e3
    | ref => cases e3
    | row hh =>
      rename_i k ts
      rw [pd_row] at e3
      have ih := put_bad (hh p (List.mem_of_getElem? e3)) (by omega) hap hb
      rw [pt_row, e3, tw_row]
      cases hx : (repl ts i.toNat (putD p q new)).all (tw k) with
      | false => exact hx
      | true =>
        have := List.all_eq_true.mp hx _ repl_mem
        rw [Option.getD_some] at *
        rw [ih] at this; cases this
    | either hh =>
      rename_i k zs
      rw [pt_either, e3]
      rw [pd_either] at e3
      obtain ⟨a, b, hW⟩ := way_mid e3
      have hp : Tm k p := by
        obtain ⟨z, hz, rfl⟩ := List.mem_map.mp (List.mem_of_getElem? e3)
        exact hh z hz
      have ih := put_bad hp (by omega) hap hb
      rw [hW, tw_either]
      cases hx : (repl (zs.map fun p => D.tup [p.1, p.2.1, p.2.2]) i.toNat (way2 ((some (D.tup [a, b, p])).getD .non) (putD ((some p).getD .non) q new))).all (wayB (tw k)) with
      | false => rfl
      | true =>
        have := List.all_eq_true.mp hx _ repl_mem
        have h2 : (textB a && (bitsB b 0 400 && tw k (putD p q new))) = true := this
        rw [ih] at h2; simp at h2
    | two hw hx hy =>
      rename_i k w x y
      rw [pd_two _ _ hw] at e3
      have hlt := (List.getElem?_eq_some_iff.mp e3).1
      have : i.toNat = 0 ∨ i.toNat = 1 := by simp at hlt; omega
      rcases this with h0 | h0
      · have hi0 : i = 0 := by omega
        rw [h0] at e3
        have ep : x = p := by simpa using e3
        subst ep
        rw [pt_two0 i q x y new hw hi0, tw_two _ _ _ hw, put_bad hx (by omega) hap hb]; rfl
      · have hi0 : i = 1 := by omega
        rw [h0] at e3
        have ep : y = p := by simpa using e3
        subst ep
        rw [pt_two1 i q x y new hw hi0, tw_two _ _ _ hw, put_bad hy (by omega) hap hb]; simp
    | one hw hy =>
      rename_i k w x y
      rw [pd_one _ _ hw] at e3
      have hlt := (List.getElem?_eq_some_iff.mp e3).1
      have h0 : i.toNat = 0 := by simp at hlt; omega
      have hi0 : i = 0 := by omega
      rw [h0] at e3
      have ep : y = p := by simpa using e3
      subst ep
      rw [pt_one i q x y new hw hi0, tw_one _ _ _ hw, put_bad hy (by omega) hap hb]; simp
theorem distinct_keys (rows : List D) : distinctB rows = decide (((rows.map keyOf).foldl putKey []).length = rows.length) := by
  unfold distinctB
  rw [List.foldl_map]
theorem repl_map {β : Type} (f : D → β) {l : List D} {i : Nat} {x y : D} (h : l[i]? = some y) (e : f x = f y) : (repl l i x).map f = l.map f := by
  obtain ⟨hlt, hy⟩ := List.getElem?_eq_some_iff.mp h
  unfold repl
  rw [List.map_append, List.map_append, List.map_cons, List.map_nil, e, ← hy]
  conv => rhs; rw [← List.take_append_drop i l]
  rw [List.map_append, List.drop_eq_getElem_cons hlt, List.map_cons]
  simp
/-- a ref put at a place -/
theorem put_ok : ∀ {q : List Int} {k : Nat} {t u : D} {nm : Str}, tw k t = true → q.length < k → atD t q = some u → nameB (.str nm) = true → tw k (putD t q (.tup [.str "ref", .str nm])) = true ∧ nm ∈ refsL k (putD t q (.tup [.str "ref", .str nm]))
  | [], k, t, u, nm, T, hk, ha, hn => by
    obtain ⟨k, rfl⟩ : ∃ j, k = j + 1 := ⟨k - 1, by simp at hk; omega⟩
    refine ⟨hn, ?_⟩
    show nm ∈ refsL (k + 1) (.tup [.str "ref", .str nm])
    unfold refsL
    rw [refName_ref]
    simp
  | i :: q, k, t, u, nm, T, hk, ha, hn => by
    obtain ⟨hi, p, e3, hap⟩ := at_cons (k := k) ha
    have T' := tm_of T
    obtain ⟨k, rfl⟩ : ∃ j, k = j + 1 := ⟨k - 1, by simp at hk; omega⟩
    have hk : q.length < k := by simpa using hk
    have hr : ∀ {t' : D}, refName t' = none → ∀ p' ∈ partsD t', nm ∈ refsL k p' → nm ∈ refsL (k + 1) t' := fun {t'} hnn p' hp' hx => by
      unfold refsL
      rw [hnn]
      exact List.mem_flatMap.mpr ⟨p', hp', hx⟩
    cases T' with
    | leaf hw => rw [pd_leaf _ hw] at e3; cases e3
    | ref => cases e3
    | row hh =>
      rename_i ts
      rw [pd_row] at e3
      rw [tw_row] at T
      have ht := List.all_eq_true.mp T
      obtain ⟨h1, h2⟩ := put_ok (ht p (List.mem_of_getElem? e3)) hk hap hn
      rw [pt_row, e3]
      refine ⟨?_, hr rfl _ (by rw [pd_row]; exact repl_mem) h2⟩
      rw [tw_row, List.all_eq_true]
      intro x hx
      rcases repl_mem' hx with rfl | hx
      · exact h1
      · exact ht x hx
    | either hh =>
      rename_i zs
      rw [pt_either, e3]
      rw [pd_either] at e3
      obtain ⟨a, b, hW⟩ := way_mid e3
      rw [tw_either, Bool.and_eq_true] at T
      have hw := List.all_eq_true.mp T.1
      have hwi : (textB a && (bitsB b 0 400 && tw k p)) = true := hw _ (List.mem_of_getElem? hW)
      rw [Bool.and_eq_true, Bool.and_eq_true] at hwi
      obtain ⟨h1, h2⟩ := put_ok hwi.2.2 hk hap hn
      rw [hW]
      have hw2 : way2 ((some (D.tup [a, b, p])).getD .non) (putD ((some p).getD .non) q (.tup [.str "ref", .str nm])) = .tup [a, b, putD p q (.tup [.str "ref", .str nm])] := rfl
      rw [hw2]
      have hw' : wayB (tw k) (.tup [a, b, putD p q (.tup [.str "ref", .str nm])]) = true := by
        show (textB a && (bitsB b 0 400 && tw k _)) = true
        rw [hwi.1, hwi.2.1, h1]; rfl
      refine ⟨?_, hr rfl (putD p q (.tup [.str "ref", .str nm])) ?_ h2⟩
      · rw [tw_either, Bool.and_eq_true]
        constructor
        · rw [List.all_eq_true]
          intro x hx
          rcases repl_mem' hx with rfl | hx
          · exact hw'
          · exact hw x hx
        · have T2 := T.2
          rw [distinct_keys] at T2 ⊢
          rw [repl_map (x := .tup [a, b, putD p q (.tup [.str "ref", .str nm])]) keyOf hW rfl, repl_len (List.getElem?_eq_some_iff.mp hW).1]
          exact T2
      · show _ ∈ (repl _ _ _).map third
        exact List.mem_map.mpr ⟨_, repl_mem, rfl⟩
    | two hw hx hy =>
      rename_i w x y
      rw [tw_two _ _ _ hw, Bool.and_eq_true] at T
      rw [pd_two _ _ hw] at e3
      have hlt := (List.getElem?_eq_some_iff.mp e3).1
      have : i.toNat = 0 ∨ i.toNat = 1 := by simp at hlt; omega
      rcases this with h0 | h0
      · have hi0 : i = 0 := by omega
        rw [h0] at e3
        have ep : x = p := by simpa using e3
        subst ep
        obtain ⟨h1, h2⟩ := put_ok T.1 hk hap hn
        rw [pt_two0 i q x y _ hw hi0]
        exact ⟨by rw [tw_two _ _ _ hw, h1, T.2]; rfl, hr (refName3 _ _ _) _ (by rw [pd_two _ _ hw]; simp) h2⟩
      · have hi0 : i = 1 := by omega
        rw [h0] at e3
        have ep : y = p := by simpa using e3
        subst ep
        obtain ⟨h1, h2⟩ := put_ok T.2 hk hap hn
        rw [pt_two1 i q x y _ hw hi0]
        exact ⟨by rw [tw_two _ _ _ hw, h1, T.1]; rfl, hr (refName3 _ _ _) _ (by rw [pd_two _ _ hw]; simp) h2⟩
    | one hw hy =>
      rename_i w x y
      rw [tw_one _ _ _ hw, Bool.and_eq_true] at T
      rw [pd_one _ _ hw] at e3
      have hlt := (List.getElem?_eq_some_iff.mp e3).1
      have h0 : i.toNat = 0 := by simp at hlt; omega
      have hi0 : i = 0 := by omega
      rw [h0] at e3
      have ep : y = p := by simpa using e3
      subst ep
      obtain ⟨h1, h2⟩ := put_ok T.2 hk hap hn
      rw [pt_one i q x y _ hw hi0]
      exact ⟨by rw [tw_one _ _ _ hw, h1, T.1]; rfl, hr (refName3 _ _ _) _ (by rw [pd_one _ _ hw]; simp) h2⟩
/-! ### sizes -/
def few : Nat → D → Bool
  | 0, t => (partsD t).isEmpty
  | d + 1, t => decide ((partsD t).length ≤ 3) && (partsD t).all (few d)
theorem sum_le {f : D → Nat} {b : Nat} : ∀ {l : List D}, (∀ p ∈ l, f p ≤ b) → (l.map f).sum ≤ l.length * b
  | [], _ => by simp
  | x :: r, h => by
    rw [List.map_cons, List.sum_cons, List.length_cons, Nat.add_mul, Nat.one_mul]
    have h1 := h x List.mem_cons_self
    have h2 := sum_le (l := r) fun p hp => h p (List.mem_cons_of_mem _ hp)
    omega
theorem paths_few : ∀ {d k : Nat} {t : D}, few d t = true → (pathsL k t).length ≤ 4 ^ d
  | d, 0, t, h => Nat.zero_le _
  | 0, k + 1, t, h => by
    have h : partsD t = [] := by simpa [few] using h
    unfold pathsL
    rw [h]; simp [idxF]
  | d + 1, k + 1, t, h => by
    rw [few, Bool.and_eq_true] at h
    have h1 := of_decide_eq_true h.1
    have h2 := List.all_eq_true.mp h.2
    unfold pathsL
    rw [List.length_cons, idxF_len]
    have := sum_le (f := fun p => (pathsL k p).length) (b := 4 ^ d) fun p hp => paths_few (h2 p hp)
    have h3 : (partsD t).length * 4 ^ d ≤ 3 * 4 ^ d := Nat.mul_le_mul_right _ h1
    have h4 : 1 ≤ 4 ^ d := Nat.pow_pos (by decide)
    rw [Nat.pow_succ]
    omega
theorem flat_sum {α : Type} {f : D → List α} : ∀ l : List D, (l.flatMap f).length = (l.map fun p => (f p).length).sum
  | [] => rfl
  | x :: r => by rw [List.flatMap_cons, List.length_append, List.map_cons, List.sum_cons, flat_sum r]
theorem refs_few : ∀ {d k : Nat} {t : D}, few d t = true → (refsL k t).length ≤ 4 ^ d
  | d, 0, t, h => Nat.zero_le _
  | d, k + 1, t, h => by
    have h4 : 1 ≤ 4 ^ d := Nat.pow_pos (by decide)
    unfold refsL
    split
    · simpa using h4
    · rw [flat_sum]
      cases d with
      | zero =>
        have h : partsD t = [] := by simpa [few] using h
        rw [h]; simp
      | succ d =>
        rw [few, Bool.and_eq_true] at h
        have h1 := of_decide_eq_true h.1
        have h2 := List.all_eq_true.mp h.2
        have := sum_le (f := fun p => (refsL k p).length) (b := 4 ^ d) fun p hp => refs_few (h2 p hp)
        have h3 : (partsD t).length * 4 ^ d ≤ 3 * 4 ^ d := Nat.mul_le_mul_right _ h1
        rw [Nat.pow_succ] at h4 ⊢
        omega
theorem sm_tupI {l : List D} (h : l.length ≤ 1000) (h2 : ∀ d ∈ l, smD d = true) : smD (.tup l) = true := by
  rw [smD, Bool.and_eq_true]
  exact ⟨decide_eq_true h, smsD_of h2⟩
theorem sm_repl {l : List D} {i : Nat} {x : D} (hs : smD (.tup l) = true) (hi : i < l.length) (hx : smD x = true) : smD (.tup (repl l i x)) = true := by
  refine sm_tupI (by rw [repl_len hi]; exact (sm_tup hs).1) fun d hd => ?_
  rcases repl_mem' hd with rfl | hd
  · exact hx
  · exact sm_mem hs hd
theorem map_repl {f : D → D} {l : List D} {i : Nat} {x : D} : (repl l i x).map f = repl (l.map f) i (f x) := by
  unfold repl; simp
theorem put_parts {k : Nat} {t u new : D} {i : Int} {q : List Int} (T : Tm (k + 1) t) (h : atD t (i :: q) = some u) : ∃ p, (partsD t)[i.toNat]? = some p ∧ atD p q = some u ∧ partsD (putD t (i :: q) new) = repl (partsD t) i.toNat (putD p q new) ∧ (smD t = true → smD (putD p q new) = true → smD (putD t (i :: q) new) = true) := by
  obtain ⟨hi, p, e3, hap⟩ := at_cons (k := k) h
  refine ⟨p, e3, hap, ?_⟩
  have hlt := (List.getElem?_eq_some_iff.mp e3).1
  cases T with
  | leaf hw => rw [pd_leaf _ hw] at e3; cases e3
  | ref => cases e3
  | row hh =>
    rename_i ts
    rw [pd_row] at e3 hlt ⊢
    rw [pt_row, e3]
    refine ⟨rfl, fun hs hn => sm_tupI (by simp) fun d hd => ?_⟩
    rcases List.mem_cons.mp hd with rfl | hd
    · exact sm_mem hs (by simp)
    · rw [List.mem_singleton.mp hd]
      exact sm_repl (sm_mem hs (by simp)) hlt hn
  | either hh =>
    rename_i zs
    rw [pt_either, e3]
    rw [pd_either] at e3 hlt ⊢
    obtain ⟨a, b, hW⟩ := way_mid e3
    rw [hW]
    have hw2 : way2 ((some (D.tup [a, b, p])).getD .non) (putD ((some p).getD .non) q new) = .tup [a, b, putD p q new] := rfl
    rw [hw2]
    refine ⟨?_, fun hs hn => sm_tupI (by simp) fun d hd => ?_⟩
    · show (repl _ _ _).map third = _
      rw [map_repl, List.map_map]
      rfl
    · rcases List.mem_cons.mp hd with rfl | hd
      · exact sm_mem hs (by simp)
      · rw [List.mem_singleton.mp hd]
        have hW' := sm_mem hs (d := .tup (zs.map fun p => D.tup [p.1, p.2.1, p.2.2])) (by simp)
        have hw := sm_mem hW' (List.mem_of_getElem? hW)
        refine sm_repl hW' (by simpa using hlt) (sm_tupI (by simp) fun d hd => ?_)
        simp at hd
        rcases hd with rfl | rfl | rfl
        · exact sm_mem hw (by simp)
        · exact sm_mem hw (by simp)
        · exact hn
  | two hw hx hy =>
    rename_i w x y
    rw [pd_two _ _ hw] at e3 hlt ⊢
    have : i.toNat = 0 ∨ i.toNat = 1 := by simp at hlt; omega
    rcases this with h0 | h0
    · have hi0 : i = 0 := by omega
      rw [h0] at e3 ⊢
      have ep : x = p := by simpa using e3
      subst ep
      rw [pt_two0 i q x y _ hw hi0, pd_two _ _ hw]
      refine ⟨rfl, fun hs hn => sm_tupI (by simp) fun d hd => ?_⟩
      simp at hd
      rcases hd with rfl | rfl | rfl
      · exact sm_mem hs (by simp)
      · exact hn
      · exact sm_mem hs (by simp)
    · have hi0 : i = 1 := by omega
      rw [h0] at e3 ⊢
      have ep : y = p := by simpa using e3
      subst ep
      rw [pt_two1 i q x y _ hw hi0, pd_two _ _ hw]
      refine ⟨rfl, fun hs hn => sm_tupI (by simp) fun d hd => ?_⟩
      simp at hd
      rcases hd with rfl | rfl | rfl
      · exact sm_mem hs (by simp)
      · exact sm_mem hs (by simp)
      · exact hn
  | one hw hy =>
    rename_i w x y
    rw [pd_one _ _ hw] at e3 hlt ⊢
    have h0 : i.toNat = 0 := by simp at hlt; omega
    have hi0 : i = 0 := by omega
    rw [h0] at e3 ⊢
    have ep : y = p := by simpa using e3
    subst ep
    rw [pt_one i q x y _ hw hi0, pd_one _ _ hw]
    refine ⟨rfl, fun hs hn => sm_tupI (by simp) fun d hd => ?_⟩
    simp at hd
    rcases hd with rfl | rfl | rfl
    · exact sm_mem hs (by simp)
    · exact sm_mem hs (by simp)
    · exact hn
theorem few_put : ∀ {q : List Int} {d k : Nat} {t u new : D}, Tm k t → few d t = true → partsD new = [] → atD t q = some u → few d (putD t q new) = true
  | [], 0, k, t, u, new, T, hf, hn, ha => by show (partsD new).isEmpty = true; rw [hn]; rfl
  | [], d + 1, k, t, u, new, T, hf, hn, ha => by show (decide ((partsD new).length ≤ 3) && (partsD new).all (few d)) = true; rw [hn]; rfl
  | i :: q, d, 0, t, u, new, T, hf, hn, ha => by cases T
  | i :: q, 0, k + 1, t, u, new, T, hf, hn, ha => by
    obtain ⟨hi, p, e3, hap⟩ := at_cons (k := k) ha
    have h : partsD t = [] := by simpa [few] using hf
    rw [h] at e3; cases e3
  | i :: q, d + 1, k + 1, t, u, new, T, hf, hn, ha => by
    obtain ⟨p, e3, hap, hpt, _⟩ := put_parts (new := new) T ha
    rw [few, Bool.and_eq_true] at hf ⊢
    have h2 := List.all_eq_true.mp hf.2
    rw [hpt, repl_len (List.getElem?_eq_some_iff.mp e3).1]
    refine ⟨hf.1, List.all_eq_true.mpr fun x hx => ?_⟩
    have hpm := List.mem_of_getElem? e3
    rcases repl_mem' hx with rfl | hx
    · exact few_put (tm_parts T p hpm) (h2 p hpm) hn hap
    · exact h2 x hx
theorem sm_put : ∀ {q : List Int} {k : Nat} {t u new : D}, Tm k t → smD t = true → smD new = true → atD t q = some u → smD (putD t q new) = true
  | [], k, t, u, new, T, hs, hn, ha => hn
  | i :: q, 0, t, u, new, T, hs, hn, ha => by cases T
  | i :: q, k + 1, t, u, new, T, hs, hn, ha => by
    obtain ⟨p, e3, hap, _, hsm⟩ := put_parts (new := new) T ha
    have hpm := List.mem_of_getElem? e3
    exact hsm hs (sm_put (tm_parts T p hpm) ((sm_parts T hs).2 p hpm) hn hap)
theorem at_paths : ∀ {k : Nat} {t : D} {q : List Int}, q ∈ pathsL k t → (∃ u, atD t q = some u) ∧ ∀ i ∈ q, 0 ≤ i
  | 0, t, q, h => by cases h
  | k + 1, t, q, h => by
    unfold pathsL at h
    rcases List.mem_cons.mp h with rfl | h
    · exact ⟨⟨t, rfl⟩, by simp⟩
    · obtain ⟨j, p, q', h1, h2, rfl⟩ := idxF_mem h
      obtain ⟨⟨u, hu⟩, hn⟩ := at_paths h2
      refine ⟨⟨u, ?_⟩, fun i hi => ?_⟩
      · show (if (0 : Int) ≤ ((0 + j : Nat) : Int) then (partsD t)[(((0 + j : Nat) : Int)).toNat]?.bind fun p => atD p q' else none) = some u
        rw [if_pos (by omega)]
        have : (((0 + j : Nat) : Int)).toNat = j := by omega
        rw [this, h1]
        exact hu
      · rcases List.mem_cons.mp hi with rfl | hi
        · omega
        · exact hn i hi
theorem paths_ne {k : Nat} {t : D} (T : Tm k t) : pathsL k t ≠ [] := by
  cases k with
  | zero => cases T
  | succ k => unfold pathsL; simp
theorem idxF_last {f : D → List (List Int)} : ∀ (pre : List D) (p : D) (i : Nat) (z : List Int), (f p).getLast? = some z → (idxF f i (pre ++ [p])).getLast? = some (((i + pre.length : Nat) : Int) :: z)
  | [], p, i, z, h => by
    simp [idxF]
    exact h
  | x :: r, p, i, z, h => by
    show ((f x).map (fun q => (i : Int) :: q) ++ idxF f (i + 1) (r ++ [p])).getLast? = _
    rw [List.getLast?_append, idxF_last r p (i + 1) z h]
    simp
    omega
theorem last_leaf : ∀ {k : Nat} {t : D}, Tm k t → ∃ q u, (pathsL k t).getLast? = some q ∧ atD t q = some u ∧ partsD u = []
  | 0, t, T => by cases T
  | k + 1, t, T => by
    by_cases hp : partsD t = []
    · refine ⟨[], t, ?_, rfl, hp⟩
      unfold pathsL
      rw [hp]; rfl
    · obtain ⟨pre, p, e⟩ : ∃ pre p, partsD t = pre ++ [p] := ⟨_, _, (List.dropLast_concat_getLast hp).symm⟩
      have hpm : p ∈ partsD t := by rw [e]; simp
      obtain ⟨q, u, h1, h2, h3⟩ := last_leaf (tm_parts T p hpm)
      refine ⟨((0 + pre.length : Nat) : Int) :: q, u, ?_, ?_, h3⟩
      · unfold pathsL
        rw [e]
        have := idxF_last (f := pathsL k) pre p 0 q h1
        rw [List.getLast?_cons, this]; rfl
      · show (if (0 : Int) ≤ ((0 + pre.length : Nat) : Int) then (partsD t)[(((0 + pre.length : Nat) : Int)).toNat]?.bind fun p => atD p q else none) = some u
        rw [if_pos (by omega)]
        have : (((0 + pre.length : Nat) : Int)).toNat = pre.length := by omega
        rw [this, e]
        simp [h2]
theorem at_app_q : ∀ {q : List Int} {t u : D} (q2 : List Int), atD t q = some u → atD t (q ++ q2) = atD u q2
  | [], t, u, q2, h => by cases h; rfl
  | i :: q, t, u, q2, h => by
    obtain ⟨hi, p, e3, hap⟩ := at_cons (k := 0) h
    show (if 0 ≤ i then (partsD t)[i.toNat]?.bind fun p => atD p (q ++ q2) else none) = _
    rw [if_pos hi, e3]
    exact at_app_q q2 hap
theorem few_at : ∀ {q : List Int} {d : Nat} {t u : D}, few d t = true → atD t q = some u → (partsD u).length ≤ 3
  | [], 0, t, u, hf, ha => by
    cases ha
    have h : partsD t = [] := by simpa [few] using hf
    rw [h]; simp
  | [], d + 1, t, u, hf, ha => by
    cases ha
    rw [few, Bool.and_eq_true] at hf
    exact of_decide_eq_true hf.1
  | i :: q, 0, t, u, hf, ha => by
    obtain ⟨hi, p, e3, hap⟩ := at_cons (k := 0) ha
    have h : partsD t = [] := by simpa [few] using hf
    rw [h] at e3; cases e3
  | i :: q, d + 1, t, u, hf, ha => by
    obtain ⟨hi, p, e3, hap⟩ := at_cons (k := 0) ha
    rw [few, Bool.and_eq_true] at hf
    exact few_at (List.all_eq_true.mp hf.2 p (List.mem_of_getElem? e3)) hap
theorem few_path : ∀ {q : List Int} {d : Nat} {t u : D}, few d t = true → atD t q = some u → q.length ≤ d
  | [], d, t, u, hf, ha => Nat.zero_le _
  | i :: q, 0, t, u, hf, ha => by
    obtain ⟨hi, p, e3, hap⟩ := at_cons (k := 0) ha
    have h : partsD t = [] := by simpa [few] using hf
    rw [h] at e3; cases e3
  | i :: q, d + 1, t, u, hf, ha => by
    obtain ⟨hi, p, e3, hap⟩ := at_cons (k := 0) ha
    rw [few, Bool.and_eq_true] at hf
    have := few_path (List.all_eq_true.mp hf.2 p (List.mem_of_getElem? e3)) hap
    simp; omega
end KK
end
section
set_option Elab.async false
set_option linter.all false
set_option maxRecDepth 100000
namespace KK
open PySem PySem.Spec PyProof.Rows L2 DL
/-! ### what is drawn from the bag -/
def IsBag (k : Nat) (m : M) : Prop := ∃ is : List Int, m[k]? = some (is.map .int)
def St (k : Nat) (m m' : M) : Prop := ∃ is : List Int, m' = m.set k (is.map .int)
theorem St.len {k : Nat} {m m' : M} (h : St k m m') : m'.length = m.length := by obtain ⟨is, rfl⟩ := h; simp
theorem St.refl {k : Nat} {m : M} (h : IsBag k m) : St k m m := by
  obtain ⟨is, e⟩ := h
  obtain ⟨hlt, e2⟩ := List.getElem?_eq_some_iff.mp e
  exact ⟨is, by rw [← e2, List.set_getElem_self]⟩
theorem St.trans {k : Nat} {m m1 m2 : M} (h : St k m m1) (h2 : St k m1 m2) : St k m m2 := by
  obtain ⟨is, rfl⟩ := h
  obtain ⟨is2, rfl⟩ := h2
  exact ⟨is2, by simp⟩
theorem St.bag {k : Nat} {m m1 : M} (h : IsBag k m) (h2 : St k m m1) : IsBag k m1 := by
  obtain ⟨is, e⟩ := h
  obtain ⟨is2, rfl⟩ := h2
  obtain ⟨hlt, _⟩ := List.getElem?_eq_some_iff.mp e
  exact ⟨is2, by simp [hlt]⟩
theorem St.other {k j : Nat} {m m1 : M} (h2 : St k m m1) (hj : j ≠ k) : m1[j]? = m[j]? := by
  obtain ⟨is2, rfl⟩ := h2
  exact List.getElem?_set_ne (by omega)
theorem St.pure {k : Nat} {m m1 : M} (h2 : St k m m1) (hm : pureM m = true) : pureM m1 = true := by
  obtain ⟨is2, rfl⟩ := h2
  unfold pureM at hm ⊢
  rw [List.all_eq_true] at hm ⊢
  intro l hl
  rcases List.mem_or_eq_of_mem_set hl with h | h
  · exact hm l h
  · rw [h]; exact puresD_ints is2
def HF (k : Nat) (f : DL.F) (ε : Ev) (Q : D → Prop) : Prop := ∀ m, IsBag k m → ∃ d m', f ε m = some (d, m') ∧ St k m m' ∧ Q d
def HD (k : Nat) (c : FD) (ds : List D) (Q : D → Prop) : Prop := ∀ m, IsBag k m → ∃ d m', c ds m = some (d, m') ∧ St k m m' ∧ Q d
def HS (k : Nat) (s : FS) (ε : Ev) (Q : D → Prop) : Prop := ∀ m, IsBag k m → ∃ d m', s ε m = some (.rt d m') ∧ St k m m' ∧ Q d
section
variable {k : Nat} {ε : Ev} {f g fa fb fc : DL.F} {Q Qa Qb : D → Prop} {d : D}
theorem hf_pure (h : ∀ m, f ε m = some (d, m)) (q : Q d) : HF k f ε Q := fun m hb => ⟨d, m, h m, St.refl hb, q⟩
theorem hf_mono (h : HF k f ε Qa) (hq : ∀ d, Qa d → Q d) : HF k f ε Q := fun m hb => let ⟨d, m', e, s, q⟩ := h m hb; ⟨d, m', e, s, hq d q⟩
theorem hd_mono {c : FD} {ds : List D} (h : HD k c ds Qa) (hq : ∀ d, Qa d → Q d) : HD k c ds Q := fun m hb => let ⟨d, m', e, s, q⟩ := h m hb; ⟨d, m', e, s, hq d q⟩
theorem hf_bin {G : G2} (ha : HF k fa ε Qa) (hb : ∀ a, Qa a → HF k fb ε fun b => ∀ m, ∃ d, G a b m = some d ∧ Q d) : HF k (fBin G fa fb) ε Q := fun m hm => by
  obtain ⟨a, m1, e1, s1, qa⟩ := ha m hm
  obtain ⟨b, m2, e2, s2, qb⟩ := hb a qa m1 (s1.bag hm)
  obtain ⟨d, e3, q⟩ := qb m2
  exact ⟨d, m2, x_bin e1 e2 e3, s1.trans s2, q⟩
theorem hf_app1 {G : GN} (ha : HF k fa ε fun a => ∀ m, ∃ d, G [a] m = some d ∧ Q d) : HF k (fApp G (f1 fa)) ε Q := fun m hm => by
  obtain ⟨a, m1, e1, s1, qa⟩ := ha m hm
  obtain ⟨d, e3, q⟩ := qa m1
  exact ⟨d, m1, x_app1 e1 e3, s1, q⟩
theorem hf_mt {G : D → D → Option D} (ha : ∀ m, fa ε m = some (d, m)) (hb : HF k fb ε fun b => ∃ z, G d b = some z ∧ Q z) : HF k (fMt G fa fb) ε Q := fun m hm => by
  obtain ⟨b, m2, e2, s2, z, e3, q⟩ := hb m hm
  exact ⟨z, m2, by unfold fMt; rw [ha]; simp only [Option.bind_some]; rw [e2]; simp only [Option.bind_some]; rw [e3]; rfl, s2, q⟩
theorem hf_call1 {c : FD} (h1 : ∀ m, fa ε m = some (.mr k, m)) (h : HD k c [.mr k] Q) : HF k (fCall c (faCons fa faNil)) ε Q := fun m hm => by
  obtain ⟨d, m', e, s, q⟩ := h m hm
  exact ⟨d, m', x_call1 (h1 m) e, s, q⟩
theorem hf_call2 {c : FD} (h1 : ∀ m, fa ε m = some (.mr k, m)) (h2 : HF k fb ε Qb) (h : ∀ b, Qb b → HD k c [.mr k, b] Q) : HF k (fCall c (faCons fa (faCons fb faNil))) ε Q := fun m hm => by
  obtain ⟨b, m1, e1, s1, qb⟩ := h2 m hm
  obtain ⟨d, m', e, s, q⟩ := h b qb m1 (s1.bag hm)
  exact ⟨d, m', x_call2 (h1 m) e1 e, s1.trans s, q⟩
theorem hf_call3 {c : FD} {b e : D} (h1 : ∀ m, fa ε m = some (.mr k, m)) (h2 : ∀ m, fb ε m = some (b, m)) (h3 : ∀ m, fc ε m = some (e, m)) (h : HD k c [.mr k, b, e] Q) : HF k (fCall c (faCons fa (faCons fb (faCons fc faNil)))) ε Q := fun m hm => by
  obtain ⟨d, m', e, s, q⟩ := h m hm
  exact ⟨d, m', x_call3 (h1 m) (h2 m) (h3 m) e, s, q⟩
theorem hf_tup2 (ha : HF k fa ε Qa) (hb : ∀ a, Qa a → HF k fb ε fun b => Q (.tup [a, b])) : HF k (fTup (faCons fa (faCons fb faNil))) ε Q := fun m hm => by
  obtain ⟨a, m1, e1, s1, qa⟩ := ha m hm
  obtain ⟨b, m2, e2, s2, qb⟩ := hb a qa m1 (s1.bag hm)
  exact ⟨_, m2, x_tup2 e1 e2, s1.trans s2, qb⟩
theorem hf_tup3 (ha : HF k fa ε Qa) (hb : ∀ a, Qa a → HF k fb ε fun b => HF k fc ε fun c => Q (.tup [a, b, c])) : HF k (fTup (faCons fa (faCons fb (faCons fc faNil)))) ε Q := fun m hm => by
  obtain ⟨a, m1, e1, s1, qa⟩ := ha m hm
  obtain ⟨b, m2, e2, s2, qb⟩ := hb a qa m1 (s1.bag hm)
  obtain ⟨c, m3, e3, s3, qc⟩ := qb m2 (s2.bag (s1.bag hm))
  exact ⟨_, m3, x_tup3 e1 e2 e3, (s1.trans s2).trans s3, qc⟩
theorem hs_ret (h : HF k f ε Q) : HS k (sRet f) ε Q := fun m hm => let ⟨d, m', e, s, q⟩ := h m hm; ⟨d, m', x_ret e, s, q⟩
theorem hs_set {i : Nat} {s : FS} (h : HF k f ε Qa) (h2 : ∀ d, Qa d → HS k s (ε.set i (some d)) Q) : HS k (sSeq (sSet i f) s) ε Q := fun m hm => by
  obtain ⟨d, m1, e1, s1, q1⟩ := h m hm
  obtain ⟨d2, m2, e2, s2, q2⟩ := h2 d q1 m1 (s1.bag hm)
  exact ⟨d2, m2, x_seq (x_set e1) e2, s1.trans s2, q2⟩
theorem hs_if {t : FT} {s s2 : FS} {b : Bool} (h : ∀ m, t ε m = some (b, m)) (h1 : b = true → HS k s ε Q) (h2 : b = false → HS k s2 ε Q) : HS k (sSeq (sIf t s sNx) s2) ε Q := fun m hm => by
  cases b with
  | true =>
    obtain ⟨d, m', e, st, q⟩ := h1 rfl m hm
    exact ⟨d, m', x_seqR (x_ifT (h m) e), st, q⟩
  | false =>
    obtain ⟨d, m', e, st, q⟩ := h2 rfl m hm
    exact ⟨d, m', x_seq (x_ifF (h m) x_nx) e, st, q⟩
theorem lc_draw {i : Nat} {Qj : Nat → D → Prop} : ∀ (n lo : Nat) (out : List D) (m : M), IsBag k m → (∀ j, lo ≤ j → j < lo + n → HF k f (ε.set i (some (.int (j : Nat)))) (Qj j)) → out.length + n ≤ 1000 → ∃ l m', lcD (DL.stN i) fYes f ε (rngD (lo : Int) n) out m = some (out ++ l, m') ∧ St k m m' ∧ l.length = n ∧ ∀ j x, l[j]? = some x → Qj (lo + j) x
  | 0, lo, out, m, hm, h, hl => ⟨[], m, by simp [rngD_zero, lcD], St.refl hm, rfl, by simp⟩
  | n + 1, lo, out, m, hm, h, hl => by
    obtain ⟨d, m1, e1, s1, q1⟩ := h lo (Nat.le_refl _) (by omega) m hm
    obtain ⟨l, m2, e2, s2, hl2, q2⟩ := lc_draw n (lo + 1) (out ++ [d]) m1 (s1.bag hm) (fun j h1 h2 => h j (by omega) (by omega)) (by simp; omega)
    refine ⟨d :: l, m2, ?_, s1.trans s2, by simp [hl2], fun j x hx => ?_⟩
    · rw [rngD_succ]
      unfold lcD
      simp only [DL.stN, fYes, Option.bind_some, if_true]
      rw [e1]
      simp only [Option.bind_some]
      rw [if_pos (sz1000' (by omega))]
      have : ((lo : Int) + 1) = ((lo + 1 : Nat) : Int) := by omega
      rw [this, e2]
      simp
    · cases j with
      | zero => simp at hx; subst hx; exact q1
      | succ j =>
        have := q2 j x (by simpa using hx)
        have e : lo + 1 + j = lo + (j + 1) := by omega
        rw [e] at this; exact this
theorem hf_lc {i n : Nat} {vs : List Nat} {Qj : Nat → D → Prop} (hg : ∀ m, g ε m = some (.int (n : Nat), m)) (hn : n ≤ 1000) (h : ∀ j, j < n → HF k f ((wipeE ε vs).set i (some (.int (j : Nat)))) (Qj j)) : HF k (fLc (fRng1 g) (DL.stN i) fYes f vs) ε fun d => ∃ l, d = .lst l ∧ l.length = n ∧ ∀ j x, l[j]? = some x → Qj j x := fun m hm => by
  obtain ⟨l, m', e, s, hl, q⟩ := lc_draw (f := f) (ε := wipeE ε vs) (i := i) (Qj := Qj) n 0 [] m hm (fun j _ h2 => h j (by omega)) (by simpa using hn)
  refine ⟨.lst l, m', ?_, s, l, rfl, hl, fun j x hx => by have := q j x hx; rwa [Nat.zero_add] at this⟩
  unfold fLc fLcN
  rw [x_rng1 (hg m) (by omega)]
  simp only [Option.bind_some]
  rw [show (0 : Int) = ((0 : Nat) : Int) from rfl, e]
  simp
/-! ### the defs that draw -/
theorem ix_last {is : List Int} (h : is ≠ []) : ∃ z, (is.map D.int)[(is.map D.int).length - 1]? = some (.int z) := by
  have hl : 0 < is.length := List.length_pos_iff.mpr h
  refine ⟨is[is.length - 1], ?_⟩
  rw [List.length_map, List.getElem?_map, List.getElem?_eq_getElem (by omega)]; rfl
theorem hd_take {n : Nat} {a : Int} (h : 1 ≤ n) (ha : 0 < a) : HD k (F n .law_take) [.mr k, .int a] fun d => ∃ z : Int, d = .int z ∧ 0 ≤ z ∧ z < a := fun m hm => by
  obtain ⟨j, rfl, _⟩ := pred h
  obtain ⟨is, e⟩ := hm
  have t1 := x_t (x_bin (fa := fV 0) (fb := fLst faNil) (ε := [some (.mr k), some (.int a)]) (m := m) rfl (by
    show (if ([] : List D).length ≤ sizeLine then some (D.lst [], m) else none) = _
    rw [if_pos (sz1000 (by simp))]) (eq_nil e))
  by_cases h0 : is = []
  · subst h0
    exact ⟨.int 0, m, Fr_law_take (x_seqR (x_ifT (bt t1 rfl) (x_ret (f := fC (.int 0)) rfl))), St.refl ⟨[], e⟩, 0, rfl, by omega, ha⟩
  · obtain ⟨z, hz⟩ := ix_last h0
    have hpop : fPop (fV 0) [some (.mr k), some (.int a)] m = some (.int z, m.set k (is.dropLast.map .int)) := by
      unfold fPop
      show (m[k]?.bind fun l => l[l.length - 1]?.map fun d => (d, m.set k l.dropLast)) = _
      rw [e]
      simp only [Option.bind_some]
      rw [hz]
      simp [List.map_dropLast]
    refine ⟨.int (z.fmod a), _, Fr_law_take (x_seq (x_ifF (bt t1 (by simpa using h0)) x_nx) (x_ret (x_bin (x_app1 hpop rfl) rfl (by show (if a ≠ 0 then _ else _) = _; rw [if_pos (by omega)])))) (by simp), ⟨_, rfl⟩, _, rfl, ?_, ?_⟩
    · exact Int.fmod_nonneg_of_pos _ ha
    · exact Int.fmod_lt_of_pos _ ha
theorem hf_take {n : Nat} {a : Int} (h : 1 ≤ n) (ha : 0 < a) (h1 : ∀ m, fa ε m = some (.mr k, m)) (h2 : ∀ m, fb ε m = some (.int a, m)) : HF k (fCall (F n .law_take) (faCons fa (faCons fb faNil))) ε fun d => ∃ z : Int, d = .int z ∧ 0 ≤ z ∧ z < a :=
  hf_call2 (Qb := fun b => b = .int a) h1 (hf_pure h2 rfl) fun b hb => by subst hb; exact hd_take h ha
/-- one of a written list -/
theorem pick_ok {l : List D} {Q : D → Prop} {z : Int} (h0 : 0 ≤ z) (h1 : z < (l.length : Int)) (h : ∀ d ∈ l, Q d) (m : M) : ∃ d, ixG (.lst l) (.int z) m = some d ∧ Q d := by
  have hlt : z.toNat < l.length := by omega
  refine ⟨l[z.toNat], ?_, h _ (List.getElem_mem hlt)⟩
  show atI l z = _
  rw [atI_nn h0, List.getElem?_eq_getElem hlt]
theorem hf_pick {n : Nat} {l : List D} {a : Int} (h : 1 ≤ n) (hl : ∀ m, g ε m = some (.lst l, m)) (ha : (l.length : Int) = a) (h0 : 0 < a) (h1 : ∀ m, fa ε m = some (.mr k, m)) (h2 : ∀ m, fb ε m = some (.int a, m)) (q : ∀ d ∈ l, Q d) : HF k (fBin ixG g (fCall (F n .law_take) (faCons fa (faCons fb faNil)))) ε Q := by
  refine hf_bin (Qa := fun x => x = .lst l) (hf_pure hl rfl) fun x hx => ?_
  subst hx
  refine hf_mono (hf_take h h0 h1 h2) fun d ⟨z, e, z0, z1⟩ => ?_
  subst e
  exact pick_ok z0 (by omega) q
end
end KK
end
section
set_option Elab.async false
set_option linter.all false
set_option maxRecDepth 100000
namespace KK
open PySem PySem.Spec PyProof.Rows L2 DL
/-! ### bits -/
def bitS (b : Bool) : Str := if b then "1" else "0"
def joinBits (bs : List Bool) : Str := Txt.join "" (bs.map bitS)
def allBits : Nat → List (List Bool)
  | 0 => [[]]
  | n + 1 => (allBits n).flatMap fun l => [true :: l, false :: l]
theorem mem_allBits : ∀ bs : List Bool, bs ∈ allBits bs.length
  | [] => by simp [allBits]
  | b :: r => by
    show b :: r ∈ (allBits r.length).flatMap _
    exact List.mem_flatMap.mpr ⟨r, mem_allBits r, by cases b <;> simp⟩
def bitsGood (bs : List Bool) : Bool := stripB (joinBits bs) && decide ((joinBits bs).length = bs.length)
theorem bits_all : (List.range 8).all (fun n => (allBits n).all bitsGood) = true := by decide +kernel
theorem bits_good {bs : List Bool} (h : bs.length ≤ 7) : stripB (joinBits bs) = true ∧ (joinBits bs).length = bs.length := by
  have h1 := List.all_eq_true.mp bits_all bs.length (List.mem_range.mpr (by omega))
  have h2 := List.all_eq_true.mp h1 bs (mem_allBits bs)
  unfold bitsGood at h2
  rw [Bool.and_eq_true] at h2
  exact ⟨h2.1, of_decide_eq_true h2.2⟩
/-- bits, n of them -/
def BitsD (n : Nat) (d : D) : Prop := ∃ s : Str, d = .str s ∧ stripB s = true ∧ s.length = n
theorem strs_bits : ∀ bs : List Bool, strsD (bs.map fun b => D.str (bitS b)) = some (bs.map bitS)
  | [] => rfl
  | b :: r => by
    show (strsD (r.map fun b => D.str (bitS b))).map _ = _
    rw [strs_bits r]; rfl
theorem bits_of_list : ∀ {l : List D}, (∀ (j : Nat) (x : D), l[j]? = some x → ∃ b, x = .str (bitS b)) → ∃ bs : List Bool, l = bs.map fun b => D.str (bitS b)
  | [], _ => ⟨[], rfl⟩
  | x :: r, h => by
    obtain ⟨b, rfl⟩ := h 0 x rfl
    obtain ⟨bs, rfl⟩ := bits_of_list (l := r) fun j y hy => h (j + 1) y (by simpa using hy)
    exact ⟨b :: bs, rfl⟩
theorem bitS_len (b : Bool) : (bitS b).length = 1 := by cases b <;> decide +kernel
theorem sum_bits : ∀ bs : List Bool, ((bs.map bitS).map (·.length)).sum = bs.length
  | [] => rfl
  | b :: r => by
    rw [List.map_cons, List.map_cons, List.sum_cons, sum_bits r, bitS_len, List.length_cons]; omega
section
variable {k n : Nat}
theorem hd_bits {c : Nat} (h : 2 ≤ n) (hc : c ≤ 7) : HD k (F n .law_bits) [.mr k, .int (c : Nat)] (BitsD c) := fun m hm => by
  obtain ⟨j, rfl, hj⟩ := pred h
  have key : HF k (fMt joinG (fC (.str (Str.ofString ""))) (fLc (fRng1 (fV 1)) (DL.stN 2) (fYes) (fBin ixG (fC (.str (Str.ofString "01"))) (fCall (F j .law_take) (faCons (fV 0) (faCons (fC (.int 2)) (faNil))))) [2])) [some (.mr k), some (.int (c : Nat)), none] (BitsD c) := by
    refine hf_mt (fun m => rfl) (hf_mono (hf_lc (Qj := fun _ x => ∃ b, x = .str (bitS b)) (fun m => rfl) (by omega) fun i hi => hf_bin (Qa := fun x => x = .str (Str.ofString "01")) (hf_pure (fun m => rfl) rfl) fun x hx => ?_) fun d ⟨l, e, hl, q⟩ => ?_)
    · subst hx
      refine hf_mono (hf_take hj (by omega) (fun m => rfl) (fun m => rfl)) fun d ⟨z, e, z0, z1⟩ m => ?_
      subst e
      have : z = 0 ∨ z = 1 := by omega
      rcases this with rfl | rfl
      · exact ⟨.str (bitS false), rfl, false, rfl⟩
      · exact ⟨.str (bitS true), rfl, true, rfl⟩
    · subst e
      obtain ⟨bs, rfl⟩ := bits_of_list q
      have hbl : bs.length = c := by simpa using hl
      refine ⟨.str (joinBits bs), ?_, joinBits bs, rfl, (bits_good (by omega)).1, by rw [(bits_good (by omega)).2, hbl]⟩
      show ((strsD (bs.map fun b => D.str (bitS b))).bind fun ys => if (ys.map (·.length)).sum + ys.length * (Str.ofString "").length ≤ 16777216 then some (D.str (Txt.join (Str.ofString "") ys)) else none) = _
      rw [strs_bits]
      simp only [Option.bind_some]
      rw [if_pos (by
        rw [sum_bits]
        have : (Str.ofString "").length = 0 := by decide +kernel
        rw [this]
        have : bs.length ≤ 16777216 := Nat.le_trans (show bs.length ≤ 7 by omega) (by decide)
        simpa using this)]
      rfl
  obtain ⟨d, m', e, s, q⟩ := key m hm
  exact ⟨d, m', Fr_law_bits (x_ret e) s.len, s, q⟩
theorem bitsD_ok {c : Nat} {d : D} {a b : Int} (h : BitsD c d) (ha : a ≤ c) (hb : (c : Int) ≤ b) : bitsB d a b = true := by
  obtain ⟨s, rfl, h1, h2⟩ := h
  show (stripB s && (decide (a ≤ s.length) && decide ((s.length : Int) ≤ b))) = true
  rw [h1, h2]
  simp [ha, hb]
theorem bitsD_sm {c : Nat} {d : D} (h : BitsD c d) (hc : c ≤ 7) : smD d = true := by
  obtain ⟨s, rfl, h1, h2⟩ := h
  show decide (s.length ≤ 1000) = true
  exact decide_eq_true (by omega)
theorem bitsD_dok {c k : Nat} {d : D} (h : BitsD c d) : dOk k d = true := by
  obtain ⟨s, rfl, h1, h2⟩ := h
  cases k <;> rfl
/-! ### atoms -/
abbrev atomE : DL.F := fLst (faCons (fV 1) (faCons (fBin addG (fBin ixG (fC (.str (Str.ofString "x.,-AZ09 ay"))) (fV 1)) (fApp strG (f1 (fV 1)))) (faCons (fApp strG (f1 (fV 1))) (faCons (fBin addG (fBin powG (fC (.int 10)) (fC (.int 39))) (fV 1)) (faCons (fBin subG (fUn negG (fBin powG (fC (.int 10)) (fC (.int 39)))) (fV 1)) (faCons (fBin subG (fUn negG (fC (.int 1))) (fV 1)) (faNil)))))))
def atomL (i : Nat) : List D := match atomE [some .non, some (.int (i : Nat))] [] with | some (.lst l, _) => l | _ => []
def atomKeys (i : Nat) : List Key := (atomL i).filterMap keyD
def atomGood (i : Nat) (d : D) : Bool := atomB d && (smD d && (dOk 0 d && (match keyD d with | some x => memK (atomKeys i) x | none => false)))
theorem atom_all : (List.range 3).all (fun i => (atomL i).all (atomGood i) && decide ((atomL i).length = 6)) = true := by decide +kernel
theorem atom_dis : (List.range 3).all (fun i => (List.range 3).all fun j => i == j || (atomKeys i).all fun x => !memK (atomKeys j) x) = true := by decide +kernel
theorem hd_atom {i : Nat} (h : 2 ≤ n) (hi : i < 3) : HD k (F n .law_atom) [.mr k, .int (i : Nat)] fun d => atomGood i d = true := fun m hm => by
  obtain ⟨j, rfl, hj⟩ := pred h
  have ha := List.all_eq_true.mp atom_all i (List.mem_range.mpr hi)
  rw [Bool.and_eq_true] at ha
  have hl : (atomL i).length = 6 := of_decide_eq_true ha.2
  have key : HF k (fBin ixG atomE (fCall (F j .law_take) (faCons (fV 0) (faCons (fC (.int 6)) (faNil))))) [some (.mr k), some (.int (i : Nat))] fun d => atomGood i d = true := by
    refine hf_pick (l := atomL i) hj (fun m => ?_) (by omega) (by omega) (fun m => rfl) (fun m => rfl) (List.all_eq_true.mp ha.1)
    have : i = 0 ∨ i = 1 ∨ i = 2 := by omega
    rcases this with rfl | rfl | rfl <;> rfl
  obtain ⟨d, m', e, s, q⟩ := key m hm
  exact ⟨d, m', Fr_law_atom (x_ret e) s.len, s, q⟩
theorem atom_key_ne {i j : Nat} {d e : D} (hi : i < 3) (hj : j < 3) (hij : i ≠ j) (hd : atomGood i d = true) (he : atomGood j e = true) : (keyD d).getD (.inl 0) ≠ (keyD e).getD (.inl 0) := by
  unfold atomGood at hd he
  simp only [Bool.and_eq_true] at hd he
  have h1 := List.all_eq_true.mp (List.all_eq_true.mp atom_dis i (List.mem_range.mpr hi)) j (List.mem_range.mpr hj)
  have hb : (i == j) = false := by simpa using hij
  rw [hb, Bool.false_or] at h1
  cases ed : keyD d with
  | none => rw [ed] at hd; simp at hd
  | some x =>
    cases ee : keyD e with
    | none => rw [ee] at he; simp at he
    | some y =>
      rw [ed] at hd
      rw [ee] at he
      have hy : memK (atomKeys j) y = true := he.2.2.2
      have hx0 : memK (atomKeys i) x = true := hd.2.2.2
      have hx : x ∈ atomKeys i := by
        unfold memK at hx0
        obtain ⟨z, hz, ez⟩ := List.any_eq_true.mp hx0
        have := of_decide_eq_true ez
        subst this; exact hz
      have h2 := List.all_eq_true.mp h1 x hx
      intro z
      have z : x = y := z
      subst z
      rw [hy] at h2; cases h2
/-! ### labels -/
abbrev lab0 : DL.F := fBin addG (fLst (faNil)) (fLst (faNil))
def labPre : List D := [.str (Str.ofString ""), .str (Str.ofString "~"), .str (Str.ofString "zz"), .str (Str.ofString "A b")]
def labCh (i : Nat) : Str := ⟨#[97 + i]⟩
def labL (i : Nat) : List Str := ([Str.ofString "", Str.ofString "~", Str.ofString "zz", Str.ofString "A b"] : List Str).flatMap fun a => (List.range 8).map fun z => a ++ labCh i ++ repS (Str.ofString "z") z
def labGood (i : Nat) (d : D) : Bool := textB d && (match d with | .str s => (labL i).contains s | _ => false)
theorem lab_all : (List.range 3).all (fun i => (labL i).all fun s => textB (.str s) && decide (s.length ≤ 12)) = true := by decide +kernel
theorem lab_dis : (List.range 3).all (fun i => (List.range 3).all fun j => i == j || (labL i).all fun x => !(labL j).contains x) = true := by decide +kernel
theorem lab_ch {i : Nat} (hi : i < 3) (m : M) : ixG (.str (Str.ofString "abcdefgh")) (.int (i : Nat)) m = some (.str (labCh i)) := by
  have : i = 0 ∨ i = 1 ∨ i = 2 := by omega
  rcases this with rfl | rfl | rfl <;> rfl
theorem hd_label {i : Nat} (h : 2 ≤ n) (hi : i < 3) : HD k (F n .law_label) [.mr k, .int (i : Nat)] fun d => labGood i d = true := fun m hm => by
  obtain ⟨j, rfl, hj⟩ := pred h
  have key : HF k (fBin addG (fBin addG (fBin ixG (fLst (faCons (fC (.str (Str.ofString ""))) (faCons (fC (.str (Str.ofString "~"))) (faCons (fC (.str (Str.ofString "zz"))) (faCons (fC (.str (Str.ofString "A b"))) (faNil)))))) (fCall (F j .law_take) (faCons (fV 0) (faCons (fC (.int 4)) (faNil))))) (fBin ixG (fC (.str (Str.ofString "abcdefgh"))) (fV 1))) (fBin mulG (fC (.str (Str.ofString "z"))) (fCall (F j .law_take) (faCons (fV 0) (faCons (fC (.int 8)) (faNil)))))) [some (.mr k), some (.int (i : Nat))] fun d => labGood i d = true := by
    refine hf_bin (Qa := fun x => ∃ a ∈ ([Str.ofString "", Str.ofString "~", Str.ofString "zz", Str.ofString "A b"] : List Str), x = .str (a ++ labCh i)) (hf_bin (Qa := fun x => ∃ a ∈ ([Str.ofString "", Str.ofString "~", Str.ofString "zz", Str.ofString "A b"] : List Str), x = .str a) (hf_pick (l := labPre) (a := 4) hj (fun m => rfl) rfl (by decide) (fun m => rfl) (fun m => rfl) (fun d hd => ?_)) fun x ⟨a, ha, e⟩ => ?_) fun x ⟨a, ha, e⟩ => ?_
    · simp [labPre] at hd
      rcases hd with rfl | rfl | rfl | rfl
      · exact ⟨_, by simp, rfl⟩
      · exact ⟨_, by simp, rfl⟩
      · exact ⟨_, by simp, rfl⟩
      · exact ⟨_, by simp, rfl⟩
    · subst e
      refine hf_pure (d := .str (labCh i)) (fun m => x_bin rfl rfl (lab_ch hi m)) fun m => ⟨.str (a ++ labCh i), ?_, a, ha, rfl⟩
      show (if _ then _ else _) = _
      rw [if_pos]
      have hl : a.length ≤ 3 := by
        simp at ha
        rcases ha with rfl | rfl | rfl | rfl <;> decide +kernel
      exact sz1000 (by have : (labCh i).length = 1 := rfl; omega)
    · subst e
      refine hf_mono (Qa := fun x => ∃ z < 8, x = .str (repS (Str.ofString "z") z)) (hf_bin (Qa := fun x => x = .str (Str.ofString "z")) (hf_pure (fun m => rfl) rfl) fun x hx => ?_) fun y ⟨z, hz, e⟩ m => ?_
      · subst hx
        refine hf_mono (hf_take hj (by omega) (fun m => rfl) (fun m => rfl)) fun d ⟨z, e, z0, z1⟩ m => ?_
        subst e
        refine ⟨.str (repS (Str.ofString "z") z.toNat), ?_, z.toNat, by omega, rfl⟩
        show (if _ then _ else _) = _
        rw [if_pos ⟨z0, by omega, by decide +kernel⟩]
      · subst e
        have hmem : a ++ labCh i ++ repS (Str.ofString "z") z ∈ labL i := List.mem_flatMap.mpr ⟨a, ha, List.mem_map.mpr ⟨z, List.mem_range.mpr hz, rfl⟩⟩
        have hg := List.all_eq_true.mp (List.all_eq_true.mp lab_all i (List.mem_range.mpr hi)) _ hmem
        rw [Bool.and_eq_true] at hg
        have hlen : (a ++ labCh i ++ repS (Str.ofString "z") z).length ≤ 12 := of_decide_eq_true hg.2
        refine ⟨.str (a ++ labCh i ++ repS (Str.ofString "z") z), ?_, ?_⟩
        · show (if _ then _ else _) = _
          rw [if_pos]
          have hz' : z = 0 ∨ z = 1 ∨ z = 2 ∨ z = 3 ∨ z = 4 ∨ z = 5 ∨ z = 6 ∨ z = 7 := by omega
          have hl : (repS (Str.ofString "z") z).length ≤ 7 := by rcases hz' with rfl | rfl | rfl | rfl | rfl | rfl | rfl | rfl <;> decide +kernel
          have hl2 : (a ++ labCh i).length ≤ 4 := by
            have : i = 0 ∨ i = 1 ∨ i = 2 := by omega
            simp at ha
            rcases this with rfl | rfl | rfl <;> rcases ha with rfl | rfl | rfl | rfl <;> decide +kernel
          exact sz1000 (by omega)
        · unfold labGood
          rw [hg.1]
          simpa using hmem
  obtain ⟨d, m', e, s, q⟩ := key m hm
  exact ⟨d, m', Fr_law_label (x_ret e) s.len, s, q⟩
theorem lab_str {i : Nat} {d : D} (h : labGood i d = true) : ∃ s, d = .str s ∧ s ∈ labL i ∧ textB (.str s) = true := by
  unfold labGood at h
  rw [Bool.and_eq_true] at h
  cases d with
  | str s => exact ⟨s, rfl, by simpa using h.2, h.1⟩
  | _ => cases h.1
theorem lab_key_ne {i j : Nat} {d e : D} (hi : i < 3) (hj : j < 3) (hij : i ≠ j) (hd : labGood i d = true) (he : labGood j e = true) : (keyD d).getD (.inl 0) ≠ (keyD e).getD (.inl 0) := by
  obtain ⟨s, rfl, hs, _⟩ := lab_str hd
  obtain ⟨t, rfl, ht, _⟩ := lab_str he
  have h1 := List.all_eq_true.mp (List.all_eq_true.mp lab_dis i (List.mem_range.mpr hi)) j (List.mem_range.mpr hj)
  have hb : (i == j) = false := by simpa using hij
  rw [hb, Bool.false_or] at h1
  have h2 := List.all_eq_true.mp h1 s hs
  intro z
  have z : s = t := Sum.inr.inj z
  subst z
  simp at h2
  exact h2 ht
theorem lab_sm {i : Nat} {d : D} (hi : i < 3) (h : labGood i d = true) : smD d = true := by
  obtain ⟨s, rfl, hs, _⟩ := lab_str h
  have hg := List.all_eq_true.mp (List.all_eq_true.mp lab_all i (List.mem_range.mpr hi)) _ hs
  rw [Bool.and_eq_true] at hg
  have := of_decide_eq_true hg.2
  exact decide_eq_true (by omega)
end
end KK
end
section
set_option Elab.async false
set_option linter.all false
set_option maxRecDepth 100000
namespace KK
open PySem PySem.Spec PyProof.Rows L2 DL
theorem memK_iff {acc : List Key} {x : Key} : memK acc x = true ↔ x ∈ acc := by
  unfold memK
  rw [List.any_eq_true]
  constructor
  · rintro ⟨z, hz, ez⟩
    have := of_decide_eq_true ez
    subst this; exact hz
  · intro h
    exact ⟨x, h, decide_eq_true rfl⟩
theorem put_nodup : ∀ (ks acc : List Key), (acc ++ ks).Nodup → ks.foldl putKey acc = acc ++ ks
  | [], acc, _ => by simp
  | x :: r, acc, h => by
    have hx : x ∉ acc := fun hm => by
      rw [List.nodup_append] at h
      exact h.2.2 x hm x List.mem_cons_self rfl
    have e : putKey acc x = acc ++ [x] := by
      unfold putKey
      rw [if_neg]
      intro z
      exact hx (memK_iff.mp z)
    rw [List.foldl_cons, e, put_nodup r (acc ++ [x]) (by simpa using h)]
    simp
theorem distinct_of {rows : List D} (h : (rows.map keyOf).Nodup) : distinctB rows = true := by
  rw [distinct_keys, put_nodup _ [] (by simpa using h)]
  simp
theorem nodup_at' {α : Type} {l : List α} (h : ∀ (i j : Nat) (x y : α), l[i]? = some x → l[j]? = some y → i ≠ j → x ≠ y) : l.Nodup := by
  rw [List.nodup_iff_pairwise_ne] 
  rw [List.pairwise_iff_getElem]
  intro i j hi hj hij
  exact h i j _ _ (List.getElem?_eq_getElem hi) (List.getElem?_eq_getElem hj) (by omega)
theorem dOk_mono : ∀ {k j : Nat} {d : D}, dOk k d = true → k ≤ j → dOk j d = true
  | k, j, .non, h, _ => by cases j <;> rfl
  | k, j, .bl b, h, _ => by cases j <;> rfl
  | k, j, .int i, h, _ => by cases j <;> rfl
  | k, j, .str s, h, _ => by cases j <;> rfl
  | k, j, .mr i, h, _ => by cases k <;> simp [dOk] at h
  | 0, j, .tup l, h, _ => by simp [dOk] at h
  | 0, j, .lst l, h, _ => by simp [dOk] at h
  | k + 1, 0, .tup l, h, hj => by omega
  | k + 1, 0, .lst l, h, hj => by omega
  | k + 1, j + 1, .tup l, h, hj => by
    rw [dOk, Bool.and_eq_true] at h ⊢
    exact ⟨h.1, List.all_eq_true.mpr fun x hx => dOk_mono (List.all_eq_true.mp h.2 x hx) (by omega)⟩
  | k + 1, j + 1, .lst l, h, hj => by
    rw [dOk, Bool.and_eq_true] at h ⊢
    exact ⟨h.1, List.all_eq_true.mpr fun x hx => dOk_mono (List.all_eq_true.mp h.2 x hx) (by omega)⟩
theorem dOk_tup {k : Nat} {l : List D} (h : l.length ≤ 1000) (h2 : ∀ x ∈ l, dOk k x = true) : dOk (k + 1) (.tup l) = true := by
  rw [dOk, Bool.and_eq_true]
  exact ⟨decide_eq_true h, List.all_eq_true.mpr h2⟩
theorem get_mem {l : List D} {x : D} (h : x ∈ l) : ∃ j : Nat, l[j]? = some x := by
  obtain ⟨j, hj, e⟩ := List.mem_iff_getElem.mp h
  exact ⟨j, by rw [List.getElem?_eq_getElem hj, e]⟩
section
variable {k n : Nat}
theorem hf_tupC {f : DL.F} {ε : Ev} {P : List D → Prop} {Q : D → Prop} (h : HF k f ε fun d => ∃ l, d = .lst l ∧ P l) (hq : ∀ l, P l → Q (.tup l)) : HF k (fApp tupG (f1 f)) ε Q :=
  hf_app1 (hf_mono h fun d ⟨l, e, p⟩ m => by subst e; exact ⟨.tup l, rfl, hq l p⟩)
theorem hf_inc {f : DL.F} {ε : Ev} {a : Int} (h : HF k f ε fun d => ∃ z : Int, d = .int z ∧ 0 ≤ z ∧ z < a) : HF k (fBin addG (fC (.int 1)) f) ε fun d => ∃ z : Nat, d = .int (z : Nat) ∧ 1 ≤ z ∧ (z : Int) ≤ a := by
  refine hf_bin (Qa := fun x => x = .int 1) (hf_pure (fun m => rfl) rfl) fun x hx => ?_
  subst hx
  refine hf_mono h fun d ⟨z, e, z0, z1⟩ m => ?_
  subst e
  refine ⟨.int (1 + z), rfl, (1 + z).toNat, ?_, by omega, by omega⟩
  congr 1; omega
theorem hd_machine (h : 4 ≤ n) : HD k (F n .law_machine) [.mr k] fun d => machB d = true ∧ smD d = true ∧ dOk 2 d = true := fun m hm => by
  obtain ⟨j, rfl, hj⟩ := pred h
  have key : HS k (b_law_machine (F j)) [some (.mr k), none, none, none] fun d => machB d = true ∧ smD d = true ∧ dOk 2 d = true := by
    refine hs_set (hf_inc (hf_take (by omega) (by omega) (fun m => rfl) (fun m => rfl))) fun d ⟨c, e, c1, c2⟩ => ?_
    subst e
    refine hs_set (hf_inc (hf_take (by omega) (by omega) (fun m => rfl) (fun m => rfl))) fun d ⟨s, e, s1, s2⟩ => ?_
    subst e
    have inR : ∀ z : Int, 0 ≤ z → z < c → withinB (.int z) 0 ((c : Int) - 1) = true := fun z h0 h1 => by
      show (decide (0 ≤ z) && decide (z ≤ (c : Int) - 1)) = true
      rw [decide_eq_true h0, decide_eq_true (by omega)]; rfl
    refine hs_ret (hf_tupC (hf_lc (Qj := fun _ x => ∃ y z w, x = .tup [y, z, w] ∧ (∃ i : Int, y = .int i ∧ 0 ≤ i ∧ i < c) ∧ (∃ i : Int, z = .int i ∧ 0 ≤ i ∧ i < c) ∧ BitsD s w) (fun m => rfl) (by omega) fun i hi => ?_) fun l ⟨hl, hq⟩ => ?_)
    · refine hf_tup3 (hf_take (by omega) (by omega) (fun m => rfl) (fun m => rfl)) fun a ha => hf_mono (hf_take (by omega) (by omega) (fun m => rfl) (fun m => rfl)) fun b hb => ?_
      refine hf_mono (hf_call2 (Qb := fun x => x = .int (s : Nat)) (fun m => rfl) (hf_pure (fun m => rfl) rfl) fun x hx => by subst hx; exact hd_bits (by omega) (by omega)) fun w hw => ⟨a, b, w, rfl, ha, hb, hw⟩
    · have rowOk : ∀ x ∈ l, machRowB l.length x = true ∧ smD x = true ∧ dOk 1 x = true ∧ ckLen x = (s : Int) := fun x hx => by
        obtain ⟨j', e⟩ := get_mem hx
        obtain ⟨y, z, w, rfl, ⟨i1, rfl, h1, h2⟩, ⟨i2, rfl, h3, h4⟩, hw⟩ := hq j' x e
        refine ⟨?_, sm_tupI (by simp) fun d hd => ?_, dOk_tup (by simp) fun d hd => ?_, ?_⟩
        · show (bitsB w 1 4 && (withinB (.int i1) 0 ((l.length : Int) - 1) && withinB (.int i2) 0 ((l.length : Int) - 1))) = true
          rw [hl, bitsD_ok hw (by omega) (by omega), inR i1 h1 h2, inR i2 h3 h4]; rfl
        · simp at hd
          rcases hd with rfl | rfl | rfl
          · rfl
          · rfl
          · exact bitsD_sm hw (by omega)
        · simp at hd
          rcases hd with rfl | rfl | rfl
          · rfl
          · rfl
          · exact bitsD_dok hw
        · obtain ⟨st, rfl, _, hs⟩ := hw
          show ((st.length : Nat) : Int) = s
          rw [hs]
      refine ⟨?_, sm_tupI (by omega) fun x hx => (rowOk x hx).2.1, dOk_tup (by omega) fun x hx => (rowOk x hx).2.2.1⟩
      show ((decide ((1 : Int) ≤ l.length) && decide ((l.length : Int) ≤ 8)) && (l.all (machRowB l.length) && l.all fun r => decide (ckLen r = ckLen (l.headD .non)))) = true
      have h1 : l.all (machRowB l.length) = true := List.all_eq_true.mpr fun x hx => (rowOk x hx).1
      have h2 : (l.all fun r => decide (ckLen r = ckLen (l.headD .non))) = true := List.all_eq_true.mpr fun x hx => by
        cases l with
        | nil => cases hx
        | cons x0 r => exact decide_eq_true (by rw [(rowOk x hx).2.2.2]; exact (rowOk x0 List.mem_cons_self).2.2.2.symm)
      rw [h1, h2, decide_eq_true (by omega), decide_eq_true (by omega)]; rfl
  obtain ⟨d, m', e, s, q⟩ := key m hm
  exact ⟨d, m', Fr_law_machine e s.len, s, q⟩
/-! ### loose terms -/
structure Loose (nm : List Str) (d : Nat) (t : D) : Prop where
  tw : ∀ k, d + 1 ≤ k → tw k t = true
  few : few d t = true
  sm : smD t = true
  dok : dOk (3 * d + 3) t = true
  refs : ∀ k s, s ∈ refsL k t → s ∈ nm
theorem few_mono : ∀ {d e : Nat} {t : D}, few d t = true → d ≤ e → few e t = true
  | 0, 0, t, h, _ => h
  | 0, e + 1, t, h, _ => by
    have h : partsD t = [] := by simpa [KK.few] using h
    show (decide ((partsD t).length ≤ 3) && (partsD t).all (KK.few e)) = true
    rw [h]; rfl
  | d + 1, 0, t, h, hh => by omega
  | d + 1, e + 1, t, h, hh => by
    rw [KK.few, Bool.and_eq_true] at h ⊢
    exact ⟨h.1, List.all_eq_true.mpr fun x hx => few_mono (List.all_eq_true.mp h.2 x hx) (by omega)⟩
theorem refs_parts {nm : List Str} {t : D} (h0 : ∀ s, refName t = some s → s ∈ nm) (h : ∀ p ∈ partsD t, ∀ k s, s ∈ refsL k p → s ∈ nm) : ∀ k s, s ∈ refsL k t → s ∈ nm := by
  intro k s hs
  cases k with
  | zero => cases hs
  | succ k =>
    unfold refsL at hs
    cases e : refName t with
    | some s' => rw [e] at hs; simp at hs; subst hs; exact h0 _ e
    | none =>
      rw [e] at hs
      obtain ⟨p, hp, hs⟩ := List.mem_flatMap.mp hs
      exact h p hp k s hs
theorem few_leaf {t : D} (d : Nat) (h : partsD t = []) : few d t = true := by
  cases d with
  | zero => show (partsD t).isEmpty = true; rw [h]; rfl
  | succ d => show (decide ((partsD t).length ≤ 3) && (partsD t).all (few d)) = true; rw [h]; rfl
theorem few_node {t : D} {d : Nat} (h : (partsD t).length ≤ 3) (h2 : ∀ p ∈ partsD t, few d p = true) : few (d + 1) t = true := by
  rw [few, Bool.and_eq_true]
  exact ⟨decide_eq_true h, List.all_eq_true.mpr h2⟩
theorem k_succ {d k : Nat} (h : d + 1 ≤ k) : ∃ j, k = j + 1 ∧ d ≤ j := ⟨k - 1, by omega, by omega⟩
theorem loose_leaf {nm : List Str} {w : Str} {x : D} (d : Nat) (hw : w = "bits" ∨ w = "table" ∨ w = "width") (h : ∀ k, tw (k + 1) (.tup [.str w, x]) = true) (hs : smD x = true) (hd : dOk 2 x = true) : Loose nm d (.tup [.str w, x]) := by
  have hws : smD (.str w) = true := by rcases hw with rfl | rfl | rfl <;> decide +kernel
  have hwr : decide (w = "ref") = false := by rcases hw with rfl | rfl | rfl <;> decide +kernel
  refine ⟨fun k hk => ?_, few_leaf d (pd_leaf x hw), sm_tupI (by simp) fun y hy => ?_, dOk_mono (dOk_tup (k := 2) (by simp) fun y hy => ?_) (by omega), refs_parts (fun s hs => ?_) (by rw [pd_leaf x hw]; simp)⟩
  · obtain ⟨j, rfl, _⟩ := k_succ hk
    exact h j
  · simp at hy
    rcases hy with rfl | rfl
    · exact hws
    · exact hs
  · simp at hy
    rcases hy with rfl | rfl
    · rfl
    · exact hd
  · cases x with
    | str z =>
      have : (if w = "ref" then some z else none) = some s := hs
      rw [if_neg (of_decide_eq_false hwr)] at this; cases this
    | _ => cases hs
end
end KK
end
section
set_option Elab.async false
set_option linter.all false
set_option maxRecDepth 100000
namespace KK
open PySem PySem.Spec PyProof.Rows L2 DL
section
variable {k n : Nat} {nm : List Str}
theorem loose_ref {s : Str} (d : Nat) (h : nameB (.str s) = true) (hs : smD (.str s) = true) (hm : s ∈ nm) : Loose nm d (.tup [.str "ref", .str s]) := by
  refine ⟨fun k hk => ?_, few_leaf d rfl, sm_tupI (by simp) fun y hy => ?_, dOk_mono (dOk_tup (k := 0) (by simp) fun y hy => ?_) (by omega), refs_parts (fun z hz => ?_) (by show ∀ p ∈ [], _; simp)⟩
  · obtain ⟨j, rfl, _⟩ := k_succ hk
    exact h
  · simp at hy
    rcases hy with rfl | rfl
    · decide +kernel
    · exact hs
  · simp at hy
    rcases hy with rfl | rfl <;> rfl
  · rw [refName_ref] at hz
    cases hz; exact hm
theorem loose_row {l : List D} {d : Nat} (hl : l.length ≤ 3) (h : ∀ x ∈ l, Loose nm d x) : Loose nm (d + 1) (.tup [.str "row", .tup l]) := by
  refine ⟨fun k hk => ?_, few_node (by rw [pd_row]; exact hl) (by rw [pd_row]; exact fun p hp => (h p hp).few), sm_tupI (by simp) fun y hy => ?_, dOk_mono (dOk_tup (k := 3 * d + 4) (by simp) fun y hy => ?_) (by omega), refs_parts (fun z hz => by cases hz) (by rw [pd_row]; exact fun p hp => (h p hp).refs)⟩
  · obtain ⟨j, rfl, hj⟩ := k_succ hk
    rw [tw_row, List.all_eq_true]
    exact fun x hx => (h x hx).tw j hj
  · simp at hy
    rcases hy with rfl | rfl
    · decide +kernel
    · exact sm_tupI (by omega) fun x hx => (h x hx).sm
  · simp at hy
    rcases hy with rfl | rfl
    · rfl
    · exact dOk_tup (by omega) fun x hx => (h x hx).dok
theorem loose_either {l : List D} {d : Nat} (hl : l.length ≤ 3) (h : ∀ j x, l[j]? = some x → ∃ a b t, x = .tup [a, b, t] ∧ labGood j a = true ∧ (∃ c ≤ 7, BitsD c b) ∧ Loose nm d t) : Loose nm (d + 1) (.tup [.str "either", .tup l]) := by
  have hj3 : ∀ {j : Nat} {x : D}, l[j]? = some x → j < 3 := fun {j x} e => by have := (List.getElem?_eq_some_iff.mp e).1; omega
  have hz : ∃ zs : List (D × D × D), l = zs.map (fun p => D.tup [p.1, p.2.1, p.2.2]) ∧ ∀ p ∈ zs, Loose nm d p.2.2 := by
    have : ∀ l : List D, (∀ x ∈ l, ∃ a b t, x = .tup [a, b, t] ∧ Loose nm d t) → ∃ zs : List (D × D × D), l = zs.map (fun p => D.tup [p.1, p.2.1, p.2.2]) ∧ ∀ p ∈ zs, Loose nm d p.2.2 := by
      intro l
      induction l with
      | nil => intro _; exact ⟨[], rfl, by simp⟩
      | cons x r ih =>
        intro hx
        obtain ⟨a, b, t, rfl, ht⟩ := hx x List.mem_cons_self
        obtain ⟨zs, rfl, hzs⟩ := ih fun y hy => hx y (List.mem_cons_of_mem _ hy)
        refine ⟨(a, b, t) :: zs, rfl, fun p hp => ?_⟩
        rcases List.mem_cons.mp hp with rfl | hp
        · exact ht
        · exact hzs p hp
    refine this l fun x hx => ?_
    obtain ⟨j, e⟩ := get_mem hx
    obtain ⟨a, b, t, e2, _, _, ht⟩ := h j x e
    exact ⟨a, b, t, e2, ht⟩
  have nd : (l.map keyOf).Nodup := by
    refine nodup_at' fun i j x y hx hy hij => ?_
    rw [List.getElem?_map] at hx hy
    cases ex : l[i]? with
    | none => rw [ex] at hx; cases hx
    | some x' =>
      cases ey : l[j]? with
      | none => rw [ey] at hy; cases hy
      | some y' =>
        rw [ex] at hx; rw [ey] at hy
        cases hx; cases hy
        obtain ⟨a, b, t, rfl, ha, _⟩ := h i _ ex
        obtain ⟨a', b', t', rfl, ha', _⟩ := h j _ ey
        exact lab_key_ne (hj3 ex) (hj3 ey) hij ha ha'
  have hw : ∀ x ∈ l, ∃ j a b t, j < 3 ∧ x = .tup [a, b, t] ∧ labGood j a = true ∧ (∃ c ≤ 7, BitsD c b) ∧ Loose nm d t := fun x hx => by
    obtain ⟨j, e⟩ := get_mem hx
    obtain ⟨a, b, t, r⟩ := h j x e
    exact ⟨j, a, b, t, hj3 e, r⟩
  obtain ⟨zs, hzl, hzt⟩ := hz
  have hparts : ∀ p ∈ partsD (.tup [.str "either", .tup l]), Loose nm d p := by
    rw [hzl, pd_either]
    intro p hp
    obtain ⟨q, hq, rfl⟩ := List.mem_map.mp hp
    exact hzt q hq
  refine ⟨fun k hk => ?_, few_node (by rw [hzl, pd_either, List.length_map]; rw [hzl, List.length_map] at hl; exact hl) fun p hp => (hparts p hp).few, sm_tupI (by simp) fun y hy => ?_, dOk_mono (dOk_tup (k := 3 * d + 5) (by simp) fun y hy => ?_) (by omega), refs_parts (fun z hz => by cases hz) fun p hp => (hparts p hp).refs⟩
  · obtain ⟨j, rfl, hj⟩ := k_succ hk
    rw [tw_either, distinct_of nd, Bool.and_true, List.all_eq_true]
    intro x hx
    obtain ⟨i, a, b, t, hi, rfl, ha, ⟨c, hc, hb⟩, ht⟩ := hw x hx
    obtain ⟨s, rfl, _, htx⟩ := lab_str ha
    show (textB (.str s) && (bitsB b 0 400 && tw j t)) = true
    rw [htx, bitsD_ok hb (by omega) (by omega), ht.tw j hj]; rfl
  · simp at hy
    rcases hy with rfl | rfl
    · decide +kernel
    · refine sm_tupI (by omega) fun x hx => ?_
      obtain ⟨i, a, b, t, hi, rfl, ha, ⟨c, hc, hb⟩, ht⟩ := hw x hx
      refine sm_tupI (by simp) fun y hy => ?_
      simp at hy
      rcases hy with rfl | rfl | rfl
      · exact lab_sm hi ha
      · exact bitsD_sm hb hc
      · exact ht.sm
  · simp at hy
    rcases hy with rfl | rfl
    · rfl
    · refine dOk_tup (by omega) fun x hx => ?_
      obtain ⟨i, a, b, t, hi, rfl, ha, ⟨c, hc, hb⟩, ht⟩ := hw x hx
      refine dOk_tup (by simp) fun y hy => ?_
      simp at hy
      rcases hy with rfl | rfl | rfl
      · obtain ⟨s, rfl, _⟩ := lab_str ha; rfl
      · exact bitsD_dok hb
      · exact ht.dok
theorem loose_one {w : Str} {x t : D} {d : Nat} (hw : w = "times" ∨ w = "until" ∨ w = "checked") (h : tw1 w x = true) (hs : smD x = true) (hd : dOk 2 x = true) (ht : Loose nm d t) : Loose nm (d + 1) (.tup [.str w, x, t]) := by
  have hws : smD (.str w) = true := by rcases hw with rfl | rfl | rfl <;> decide +kernel
  refine ⟨fun k hk => ?_, few_node (by rw [pd_one _ _ hw]; simp) (by rw [pd_one _ _ hw]; intro p hp; simp at hp; subst hp; exact ht.few), sm_tupI (by simp) fun y hy => ?_, dOk_mono (dOk_tup (k := 3 * d + 3) (by simp) fun y hy => ?_) (by omega), refs_parts (fun z hz => by rw [refName3] at hz; cases hz) (by rw [pd_one _ _ hw]; intro p hp; simp at hp; subst hp; exact ht.refs)⟩
  · obtain ⟨j, rfl, hj⟩ := k_succ hk
    rw [tw_one _ _ _ hw, h, ht.tw j hj]; rfl
  · simp at hy
    rcases hy with rfl | rfl | rfl
    · exact hws
    · exact hs
    · exact ht.sm
  · simp at hy
    rcases hy with rfl | rfl | rfl
    · rfl
    · exact dOk_mono hd (by omega)
    · exact ht.dok
theorem loose_two {w : Str} {x t : D} {d : Nat} (hw : w = "counted" ∨ w = "sized") (hx : Loose nm d x) (ht : Loose nm d t) : Loose nm (d + 1) (.tup [.str w, x, t]) := by
  have hws : smD (.str w) = true := by rcases hw with rfl | rfl <;> decide +kernel
  refine ⟨fun k hk => ?_, few_node (by rw [pd_two _ _ hw]; simp) (by rw [pd_two _ _ hw]; intro p hp; simp at hp; rcases hp with rfl | rfl; exact hx.few; exact ht.few), sm_tupI (by simp) fun y hy => ?_, dOk_mono (dOk_tup (k := 3 * d + 3) (by simp) fun y hy => ?_) (by omega), refs_parts (fun z hz => by rw [refName3] at hz; cases hz) (by rw [pd_two _ _ hw]; intro p hp; simp at hp; rcases hp with rfl | rfl; exact hx.refs; exact ht.refs)⟩
  · obtain ⟨j, rfl, hj⟩ := k_succ hk
    rw [tw_two _ _ _ hw, hx.tw j hj, ht.tw j hj]; rfl
  · simp at hy
    rcases hy with rfl | rfl | rfl
    · exact hws
    · exact hx.sm
    · exact ht.sm
  · simp at hy
    rcases hy with rfl | rfl | rfl
    · rfl
    · exact hx.dok
    · exact ht.dok
theorem hf_str {s : Str} {ε : Ev} : HF k (fC (.str s)) ε fun x => x = .str s := hf_pure (fun m => rfl) rfl
theorem way_t {z : Int} {a : Int} {ε : Ev} (h : ε[3]? = some (some (.int z))) : ∀ m, fT (fBin eqG (fV 3) (fC (.int a))) ε m = some (decide (z = a), m) := fun m => x_t (x_bin (a := .int z) (by unfold fV; rw [h]; rfl) rfl (eqG_int _ _ _))
theorem hd_loose (hn1 : nm ≠ []) (hnl : nm.length ≤ 3) (hnm : ∀ s ∈ nm, nameB (.str s) = true ∧ smD (.str s) = true) : ∀ (d n : Nat), d ≤ 2 → d + 6 ≤ n → HD k (F n .law_loose) [.mr k, .lst (nm.map .str), .int (d : Nat)] (Loose nm d)
  | d, n, hd, hn => fun m hm => by
    obtain ⟨j, rfl, hj⟩ := pred (k := d + 5) (n := n) hn
    have IH : ∀ d', d = d' + 1 → HD k (F j .law_loose) [.mr k, .lst (nm.map .str), .int (d' : Nat)] (Loose nm d') := fun d' e => hd_loose hn1 hnl hnm d' j (by omega) (by omega)
    have key : HS k (b_law_loose (F j)) [some (.mr k), some (.lst (nm.map .str)), some (.int (d : Nat)), none, none, none, none, none] (Loose nm d) := by
      refine hs_set (Qa := fun x => ∃ z : Int, x = .int z ∧ 0 ≤ z ∧ z < 11 ∧ (d = 0 → z < 4)) ?_ fun x ⟨z, e, z0, z1, z2⟩ => ?_
      · have : d = 0 ∨ d = 1 ∨ d = 2 := by omega
        rcases this with rfl | rfl | rfl
        · exact hf_mono (hf_take (a := 4) (by omega) (by omega) (fun m => rfl) (fun m => rfl)) fun x ⟨z, e, h1, h2⟩ => ⟨z, e, h1, by omega, fun _ => h2⟩
        · exact hf_mono (hf_take (a := 11) (by omega) (by omega) (fun m => rfl) (fun m => rfl)) fun x ⟨z, e, h1, h2⟩ => ⟨z, e, h1, by omega, fun h => by omega⟩
        · exact hf_mono (hf_take (a := 11) (by omega) (by omega) (fun m => rfl) (fun m => rfl)) fun x ⟨z, e, h1, h2⟩ => ⟨z, e, h1, by omega, fun h => by omega⟩
      subst e
      refine hs_set (Qa := fun x => ∃ c : Nat, x = .int (c : Nat) ∧ c ≤ 3) (hf_mono (hf_take (a := 4) (by omega) (by omega) (fun m => rfl) (fun m => rfl)) fun x ⟨z, e, h1, h2⟩ => ⟨z.toNat, by rw [e]; congr 1; omega, by omega⟩) fun x ⟨c, e, hc⟩ => ?_
      subst e
      -- bits
      refine hs_if (b := decide (z = 0)) (way_t rfl) (fun _ => ?_) fun w0 => ?_
      · refine hs_ret (hf_tup2 hf_str fun x hx => ?_)
        subst hx
        refine hf_mono (hf_call2 (Qb := fun x => x = .int (c : Nat)) (fun m => rfl) (hf_pure (fun m => rfl) rfl) fun x hx => by subst hx; exact hd_bits (by omega) (by omega)) fun y hy => ?_
        exact loose_leaf d (.inl rfl) (fun k => by rw [tw_bits]; exact bitsD_ok hy (by omega) (by omega)) (bitsD_sm hy (by omega)) (bitsD_dok hy)
      -- ref
      refine hs_if (b := decide (z = 1)) (way_t rfl) (fun _ => ?_) fun w1 => ?_
      · refine hs_ret (hf_tup2 hf_str fun x hx => ?_)
        subst hx
        refine hf_pick (l := nm.map .str) (a := (nm.length : Int)) (by omega) (fun m => rfl) (by simp) (by have := List.length_pos_iff.mpr hn1; omega) (fun m => rfl) (fun m => by
          have : fApp lenG (f1 (fV 1)) [some (.mr k), some (.lst (nm.map .str)), some (.int (d : Nat)), some (.int z), some (.int (c : Nat)), none, none, none] m = some (.int ((nm.map D.str).length : Nat), m) := rfl
          rw [List.length_map] at this; exact this) fun y hy => ?_
        obtain ⟨s, hs, rfl⟩ := List.mem_map.mp hy
        exact loose_ref d (hnm s hs).1 (hnm s hs).2 hs
      -- width
      refine hs_if (b := decide (z = 2)) (way_t rfl) (fun _ => ?_) fun w2 => ?_
      · refine hs_ret (hf_tup2 hf_str fun x hx => ?_)
        subst hx
        refine hf_mono (hf_take (a := 9) (by omega) (by omega) (fun m => rfl) (fun m => rfl)) fun y ⟨i, e, i0, i1⟩ => ?_
        subst e
        refine loose_leaf d (.inr (.inr rfl)) (fun k => ?_) rfl rfl
        rw [tw_width]
        show (decide (0 ≤ i) && decide (i ≤ 8)) = true
        rw [decide_eq_true i0, decide_eq_true (by omega)]; rfl
      -- table
      refine hs_if (b := decide (z = 3)) (way_t rfl) (fun _ => ?_) fun w3 => ?_
      · refine hs_ret (hf_tup2 hf_str fun x hx => ?_)
        subst hx
        refine hf_tupC (hf_lc (Qj := fun i x => ∃ a b, x = .tup [a, b] ∧ atomGood i a = true ∧ ∃ c ≤ 7, BitsD c b) (fun m => rfl) (by omega) fun i hi => ?_) fun l ⟨hl, hq⟩ => ?_
        · refine hf_tup2 (hf_call2 (Qb := fun x => x = .int (i : Nat)) (fun m => rfl) (hf_pure (fun m => rfl) rfl) fun x hx => by subst hx; exact hd_atom (by omega) (by omega)) fun a ha => ?_
          refine hf_mono (hf_call2 (Qb := fun x => ∃ c : Nat, x = .int (c : Nat) ∧ c ≤ 3) (Q := fun b => ∃ c ≤ 7, BitsD c b) (fun m => rfl) (hf_mono (hf_take (a := 4) (by omega) (by omega) (fun m => rfl) (fun m => rfl)) fun x ⟨z, e, h1, h2⟩ => ⟨z.toNat, by rw [e]; congr 1; omega, by omega⟩) fun x ⟨c', e, hc'⟩ => by subst e; exact hd_mono (hd_bits (by omega) (by omega)) fun y hy => ⟨c', by omega, hy⟩) fun b hb => ⟨a, b, rfl, ha, hb⟩
        · have hj3 : ∀ {j : Nat} {x : D}, l[j]? = some x → j < 3 := fun {j x} e => by have := (List.getElem?_eq_some_iff.mp e).1; omega
          have nd : (l.map keyOf).Nodup := by
            refine nodup_at' fun i j x y hx hy hij => ?_
            rw [List.getElem?_map] at hx hy
            cases ex : l[i]? with
            | none => rw [ex] at hx; cases hx
            | some x' =>
              cases ey : l[j]? with
              | none => rw [ey] at hy; cases hy
              | some y' =>
                rw [ex] at hx; rw [ey] at hy
                cases hx; cases hy
                obtain ⟨a, b, rfl, ha, _⟩ := hq i _ ex
                obtain ⟨a', b', rfl, ha', _⟩ := hq j _ ey
                exact atom_key_ne (hj3 ex) (hj3 ey) hij ha ha'
          have rows : ∀ x ∈ l, ∃ i a b, i < 3 ∧ x = .tup [a, b] ∧ atomGood i a = true ∧ ∃ c ≤ 7, BitsD c b := fun x hx => by
            obtain ⟨i, e⟩ := get_mem hx
            obtain ⟨a, b, r⟩ := hq i x e
            exact ⟨i, a, b, hj3 e, r⟩
          have split : ∀ {i : Nat} {a : D}, atomGood i a = true → atomB a = true ∧ smD a = true ∧ dOk 0 a = true := fun {i a} ha => by
            unfold atomGood at ha
            simp only [Bool.and_eq_true] at ha
            exact ⟨ha.1, ha.2.1, ha.2.2.1⟩
          refine loose_leaf d (.inr (.inl rfl)) (fun k => ?_) (sm_tupI (by omega) fun x hx => ?_) (dOk_tup (by omega) fun x hx => ?_)
          · rw [tw_table]
            show (l.all tableRowB && distinctB l) = true
            rw [distinct_of nd, Bool.and_true, List.all_eq_true]
            intro x hx
            obtain ⟨i, a, b, _, rfl, ha, c', hc', hb⟩ := rows x hx
            show (atomB a && bitsB b 0 400) = true
            rw [(split ha).1, bitsD_ok hb (by omega) (by omega)]; rfl
          · obtain ⟨i, a, b, _, rfl, ha, c', hc', hb⟩ := rows x hx
            refine sm_tupI (by simp) fun y hy => ?_
            simp at hy
            rcases hy with rfl | rfl
            · exact (split ha).2.1
            · exact bitsD_sm hb hc'
          · obtain ⟨i, a, b, _, rfl, ha, c', hc', hb⟩ := rows x hx
            refine dOk_tup (by simp) fun y hy => ?_
            simp at hy
            rcases hy with rfl | rfl
            · exact (split ha).2.2
            · exact bitsD_dok hb
      have w0 := of_decide_eq_false w0
      have w1 := of_decide_eq_false w1
      have w2 := of_decide_eq_false w2
      have w3 := of_decide_eq_false w3
      have hd0 : d ≠ 0 := fun e => by have := z2 e; omega
      obtain ⟨d', rfl⟩ : ∃ d', d = d' + 1 := ⟨d - 1, by omega⟩
      have ih := IH d' rfl
      have hdm : ∀ m, (subG (.int ((d' + 1 : Nat) : Int)) (.int 1) m) = some (.int (d' : Nat)) := fun m => by
        show some (D.int (((d' + 1 : Nat) : Int) - 1)) = _
        congr 2; omega
      -- row
      refine hs_if (b := decide (z = 4)) (way_t rfl) (fun _ => ?_) fun w4 => ?_
      · refine hs_ret (hf_tup2 hf_str fun x hx => ?_)
        subst hx
        refine hf_tupC (hf_lc (Qj := fun i x => Loose nm d' x) (fun m => rfl) (by omega) fun i hi => hf_call3 (fun m => rfl) (fun m => rfl) (fun m => x_bin rfl rfl (hdm m)) ih) fun l ⟨hl, hq⟩ => ?_
        exact loose_row (by omega) fun x hx => by obtain ⟨i, e⟩ := get_mem hx; exact hq i x e
      -- either
      refine hs_if (b := decide (z = 5)) (way_t rfl) (fun _ => ?_) fun w5 => ?_
      · refine hs_set (hf_lc (Qj := fun i x => ∃ c ≤ 7, BitsD c x) (fun m => rfl) (by omega) fun i hi => hf_call2 (Qb := fun x => ∃ c : Nat, x = .int (c : Nat) ∧ c ≤ 2) (fun m => rfl) (hf_mono (hf_take (a := 3) (by omega) (by omega) (fun m => rfl) (fun m => rfl)) fun x ⟨z, e, h1, h2⟩ => ⟨z.toNat, by rw [e]; congr 1; omega, by omega⟩) fun x ⟨c', e, hc'⟩ => by subst e; exact hd_mono (hd_bits (by omega) (by omega)) fun y hy => ⟨c', by omega, hy⟩) fun x ⟨tg, e, htl, htq⟩ => ?_
        subst e
        refine hs_ret (hf_tup2 hf_str fun x hx => ?_)
        subst hx
        refine hf_tupC (hf_lc (Qj := fun i x => ∃ a b t, x = .tup [a, b, t] ∧ labGood i a = true ∧ (∃ c ≤ 7, BitsD c b) ∧ Loose nm d' t) (fun m => rfl) (by omega) fun i hi => ?_) fun l ⟨hl, hq⟩ => loose_either (by omega) hq
        have hti : tg[i]? = some tg[i] := List.getElem?_eq_getElem (by omega)
        refine hf_tup3 (hf_call2 (Qb := fun x => x = .int (i : Nat)) (fun m => rfl) (hf_pure (fun m => rfl) rfl) fun x hx => by subst hx; exact hd_label (by omega) (by omega)) fun a ha => ?_
        refine hf_pure (d := tg[i]) (fun m => x_bin rfl rfl (ix_get hti)) ?_
        exact hf_mono (hf_call3 (fun m => rfl) (fun m => rfl) (fun m => x_bin rfl rfl (hdm m)) ih) fun t ht => ⟨a, _, t, rfl, ha, htq i _ hti, ht⟩
      -- one part, two parts
      refine hs_set (hf_call3 (fun m => rfl) (fun m => rfl) (fun m => x_bin rfl rfl (hdm m)) ih) fun t ht => ?_
      refine hs_if (b := decide (z = 6)) (way_t rfl) (fun _ => ?_) fun w6 => ?_
      · refine hs_ret (hf_tup3 hf_str fun x hx => ?_)
        subst hx
        refine hf_mono (Qa := fun y => ∃ i : Int, y = .int i ∧ 0 ≤ i ∧ i < 9) ?_ fun y ⟨i, e, i0, i1⟩ => ?_
        · have : d' = 0 ∨ d' = 1 := by omega
          rcases this with rfl | rfl
          · exact hf_mono (hf_take (a := 5) (by omega) (by omega) (fun m => rfl) (fun m => rfl)) fun x ⟨z, e, h1, h2⟩ => ⟨z, e, h1, by omega⟩
          · exact hf_take (a := 9) (by omega) (by omega) (fun m => rfl) (fun m => rfl)
        · subst e
          refine hf_pure (d := t) (fun m => rfl) (loose_one (.inl rfl) ?_ rfl rfl ht)
          show (decide (0 ≤ i) && decide (i ≤ 8)) = true
          rw [decide_eq_true i0, decide_eq_true (by omega)]; rfl
      refine hs_if (b := decide (z = 7)) (way_t rfl) (fun _ => ?_) fun w7 => ?_
      · refine hs_ret (hf_tup3 hf_str fun x hx => ?_)
        subst hx
        refine hf_mono (Qa := fun y => ∃ c, 1 ≤ c ∧ c ≤ 6 ∧ BitsD c y) (hf_call2 (Qb := fun x => ∃ c : Nat, x = .int (c : Nat) ∧ 1 ≤ c ∧ (c : Int) ≤ 6) (fun m => rfl) (hf_inc (hf_take (a := 6) (by omega) (by omega) (fun m => rfl) (fun m => rfl))) fun x ⟨c', e, h1, h2⟩ => by subst e; exact hd_mono (hd_bits (by omega) (by omega)) fun y hy => ⟨c', h1, by omega, hy⟩) fun y ⟨c', h1, h2, hy⟩ => ?_
        refine hf_pure (d := t) (fun m => rfl) (loose_one (.inr (.inl rfl)) ?_ (bitsD_sm hy (by omega)) (bitsD_dok hy) ht)
        show bitsB y 1 6 = true
        exact bitsD_ok hy (by omega) (by omega)
      refine hs_if (b := decide (z = 8)) (way_t rfl) (fun _ => ?_) fun w8 => ?_
      · refine hs_ret (hf_tup3 hf_str fun x hx => ?_)
        subst hx
        refine hf_mono (hf_call1 (fun m => rfl) (hd_machine (by omega))) fun y ⟨y1, y2, y3⟩ => ?_
        exact hf_pure (d := t) (fun m => rfl) (loose_one (.inr (.inr rfl)) y1 y2 y3 ht)
      have w4 := of_decide_eq_false w4
      have w5 := of_decide_eq_false w5
      have w6 := of_decide_eq_false w6
      have w7 := of_decide_eq_false w7
      have w8 := of_decide_eq_false w8
      have hz : z = 9 ∨ z = 10 := by omega
      refine hs_ret (hf_tup3 (Qa := fun x => ∃ w : Str, x = .str w ∧ (w = "counted" ∨ w = "sized")) ?_ fun x ⟨w, e, hw⟩ => ?_)
      · rcases hz with rfl | rfl
        · exact hf_pure (d := .str "counted") (fun m => rfl) ⟨_, rfl, .inl rfl⟩
        · exact hf_pure (d := .str "sized") (fun m => rfl) ⟨_, rfl, .inr rfl⟩
      · subst e
        refine hf_pure (d := t) (fun m => rfl) ?_
        exact hf_mono (hf_call3 (fun m => rfl) (fun m => rfl) (fun m => x_bin rfl rfl (hdm m)) ih) fun t2 ht2 => loose_two hw ht ht2
    obtain ⟨x, m', e, s, q⟩ := key m hm
    exact ⟨x, m', Fr_law_loose e s.len, s, q⟩
end
end KK
end
section
set_option Elab.async false
set_option linter.all false
set_option maxRecDepth 100000
namespace KK
open PySem PySem.Spec PyProof.Rows L2 DL
theorem app_list (a b : Str) : (a ++ b).cps.toList = a.cps.toList ++ b.cps.toList := by
  show (a.cps ++ b.cps).toList = _
  simp
theorem app_len (a b : Str) : (a ++ b).length = a.length + b.length := by
  show (a.cps ++ b.cps).size = _
  simp; rfl
def aheads : List Str := [Str.ofString "", Str.ofString "m", Str.ofString "st", Str.ofString "a_"]
def signsS : Str := Str.ofString "abcdefghijklmnopqrstuvwxyz0123456789_"
def chS (c : Nat) : Str := ⟨#[c]⟩
def nameS (a : Str) (i : Nat) (tl : Str) : Str := a ++ chS (97 + i) ++ tl
def tails : List Str := (List.range 37).flatMap fun s => (List.range 3).map fun z => repS (chS (signsS.cps.toList.getD s 0)) z
theorem tails_ok : tails.all (fun t => decide (t.length ≤ 2) && t.cps.toList.all nameCh) = true := by decide +kernel
theorem aheads_ok : aheads.all (fun a => decide (a.length ≤ 2) && (a.cps.toList.all nameCh && (match a.cps.toList with | [] => true | c :: _ => decide (c ∈ lettersL) && (decide (97 ≤ c) && decide (c ≤ 120))))) = true := by decide +kernel
theorem ch_ok : (List.range 24).all (fun i => nameCh (97 + i) && decide ((97 + i) ∈ lettersL)) = true := by decide +kernel
theorem sign_at {i : Nat} (h : i < 26) : signsS.cps.toList[i]? = some (97 + i) := by
  have : (List.range 26).all (fun i => decide (signsS.cps.toList[i]? = some (97 + i))) = true := by decide +kernel
  exact of_decide_eq_true (List.all_eq_true.mp this i (List.mem_range.mpr h))
theorem sign_get {i : Nat} (h : i < 37) : signsS.cps.toList[i]? = some (signsS.cps.toList.getD i 0) := by
  have hl : signsS.cps.toList.length = 37 := by decide +kernel
  rw [List.getElem?_eq_getElem (by omega)]
  simp [List.getD, List.getElem?_eq_getElem (by omega : i < signsS.cps.toList.length)]
theorem ahead_props {a : Str} (h : a ∈ aheads) : a.length ≤ 2 ∧ a.cps.toList.all nameCh = true ∧ (∀ c r, a.cps.toList = c :: r → c ∈ lettersL ∧ 97 ≤ c ∧ c ≤ 120) := by
  have h1 := List.all_eq_true.mp aheads_ok a h
  rw [Bool.and_eq_true, Bool.and_eq_true] at h1
  refine ⟨of_decide_eq_true h1.1, h1.2.1, fun c r e => ?_⟩
  have h2 := h1.2.2
  rw [e] at h2
  simp only [Bool.and_eq_true] at h2
  exact ⟨of_decide_eq_true h2.1, of_decide_eq_true h2.2.1, of_decide_eq_true h2.2.2⟩
theorem tail_props {t : Str} (h : t ∈ tails) : t.length ≤ 2 ∧ t.cps.toList.all nameCh = true := by
  have h1 := List.all_eq_true.mp tails_ok t h
  rw [Bool.and_eq_true] at h1
  exact ⟨of_decide_eq_true h1.1, h1.2⟩
theorem ch_props {i : Nat} (h : i < 24) : nameCh (97 + i) = true ∧ 97 + i ∈ lettersL := by
  have h1 := List.all_eq_true.mp ch_ok i (List.mem_range.mpr h)
  rw [Bool.and_eq_true] at h1
  exact ⟨h1.1, of_decide_eq_true h1.2⟩
theorem name_list (a : Str) (i : Nat) (t : Str) : (nameS a i t).cps.toList = a.cps.toList ++ (97 + i) :: t.cps.toList := by
  unfold nameS
  rw [app_list, app_list]
  simp [chS]
theorem name_len (a : Str) (i : Nat) (t : Str) : (nameS a i t).length = a.length + 1 + t.length := by
  unfold nameS
  rw [app_len, app_len]; rfl
theorem name_head {a t : Str} {i : Nat} (ha : a ∈ aheads) (hi : i < 24) : ∃ c r, (nameS a i t).cps.toList = c :: r ∧ c ∈ lettersL ∧ 97 ≤ c ∧ c ≤ 120 := by
  rw [name_list]
  cases e : a.cps.toList with
  | nil => exact ⟨97 + i, t.cps.toList, rfl, (ch_props hi).2, by omega, by omega⟩
  | cons c r =>
    obtain ⟨h1, h2, h3⟩ := (ahead_props ha).2.2 c r e
    exact ⟨c, _, rfl, h1, h2, h3⟩
theorem name_ok {a t : Str} {i : Nat} (ha : a ∈ aheads) (ht : t ∈ tails) (hi : i < 24) : nameB (.str (nameS a i t)) = true := by
  have h1 := ahead_props ha
  have h2 := tail_props ht
  obtain ⟨c, r, e, hc, _⟩ := name_head (t := t) ha hi
  have hl := name_len a i t
  show ((decide ((1 : Int) ≤ (nameS a i t).length) && decide (((nameS a i t).length : Int) ≤ 12)) && (decide ((nameS a i t).cps.getD 0 0 ∈ lettersL) && (nameS a i t).cps.toList.all nameCh)) = true
  have g0 : (nameS a i t).cps.getD 0 0 = c := by
    have : (nameS a i t).cps = (c :: r).toArray := by rw [← e]
    rw [this]; rfl
  rw [decide_eq_true (by omega), decide_eq_true (by omega), g0, decide_eq_true hc, name_list, List.all_append, h1.2.1, List.all_cons, (ch_props hi).1, h2.2]; rfl
theorem lex_mid {l r s : List Nat} {x y : Nat} (h : x < y) : l ++ x :: r < l ++ y :: s := by
  induction l with
  | nil => exact List.cons_lt_cons_iff.mpr (.inl h)
  | cons a t ih => exact List.cons_lt_cons_iff.mpr (.inr ⟨rfl, ih⟩)
structure Names (ss : List Str) : Prop where
  ne : ss ≠ []
  len : ss.length ≤ 3
  nm : ∀ s ∈ ss, nameB (.str s) = true
  asc : ascB ss = true
  nd : ss.Nodup
  hd : ∀ s ∈ ss, ∃ c r, s.cps.toList = c :: r ∧ 97 ≤ c ∧ c ≤ 120
  lw : ∃ w ≤ 5, ∀ s ∈ ss, s.length = w
theorem asc_of {ss : List Str} (h : ∀ i x y, ss[i]? = some x → ss[i + 1]? = some y → x.cps.toList < y.cps.toList) : ascB ss = true := by
  unfold ascB
  rw [List.all_eq_true]
  intro d hd
  unfold rngD at hd
  obtain ⟨k, hk, rfl⟩ := List.mem_map.mp hd
  have hk : k < ss.length - 1 := List.mem_range.mp hk
  have e0 : (0 + (k : Int)).toNat = k := by omega
  show decide ((ss.getD (0 + (k : Int)).toNat default).cps.toList < (ss.getD ((0 + (k : Int)).toNat + 1) default).cps.toList) = true
  rw [e0]
  refine decide_eq_true ?_
  have h1 : ss[k]? = some ss[k] := List.getElem?_eq_getElem (by omega)
  have h2 : ss[k + 1]? = some ss[k + 1] := List.getElem?_eq_getElem (by omega)
  have := h k _ _ h1 h2
  simpa [List.getD, h1, h2] using this
theorem asc_no {pre : List Str} {x y : Str} (h : ¬ x.cps.toList < y.cps.toList) : ascB (pre ++ [x, y]) = false := by
  cases e : ascB (pre ++ [x, y]) with
  | false => rfl
  | true =>
    exfalso
    unfold ascB at e
    have hm : D.int (0 + (pre.length : Int)) ∈ rngD 0 ((pre ++ [x, y]).length - 1) := by
      unfold rngD
      exact List.mem_map.mpr ⟨pre.length, List.mem_range.mpr (by simp), rfl⟩
    have h1 := List.all_eq_true.mp e _ hm
    have e0 : (0 + (pre.length : Int)).toNat = pre.length := by omega
    have h2 : decide (((pre ++ [x, y]).getD (0 + (pre.length : Int)).toNat default).cps.toList < ((pre ++ [x, y]).getD ((0 + (pre.length : Int)).toNat + 1) default).cps.toList) = true := h1
    rw [e0] at h2
    have h3 := of_decide_eq_true h2
    simp [List.getD] at h3
    exact h h3
theorem names_of {a tl : Str} {ss : List Str} (ha : a ∈ aheads) (ht : tl ∈ tails) (hne : ss ≠ []) (hl : ss.length ≤ 3) (h : ∀ j s, ss[j]? = some s → ∃ z < 8, s = nameS a (8 * j + z) tl) : Names ss := by
  have hj3 : ∀ {j : Nat} {x : Str}, ss[j]? = some x → j < 3 := fun {j x} e => by have := (List.getElem?_eq_some_iff.mp e).1; omega
  have mem : ∀ s ∈ ss, ∃ i < 24, s = nameS a i tl := fun s hs => by
    obtain ⟨j, hj, e⟩ := List.mem_iff_getElem.mp hs
    have e' : ss[j]? = some s := by rw [List.getElem?_eq_getElem hj, e]
    obtain ⟨z, hz, rfl⟩ := h j s e'
    exact ⟨8 * j + z, by have := hj3 e'; omega, rfl⟩
  refine ⟨hne, hl, fun s hs => ?_, asc_of fun i x y hx hy => ?_, nodup_at' fun i j x y hx hy hij => ?_, fun s hs => ?_, a.length + 1 + tl.length, ?_, fun s hs => ?_⟩
  · obtain ⟨i, hi, rfl⟩ := mem s hs
    exact name_ok ha ht hi
  · obtain ⟨z, hz, rfl⟩ := h i x hx
    obtain ⟨z', hz', rfl⟩ := h (i + 1) y hy
    rw [name_list, name_list]
    exact lex_mid (by omega)
  · obtain ⟨z, hz, rfl⟩ := h i x hx
    obtain ⟨z', hz', rfl⟩ := h j y hy
    intro e
    have e2 := congrArg (fun s : Str => s.cps.toList) e
    simp only [name_list] at e2
    have e3 := List.append_cancel_left e2
    injection e3 with e4 _
    omega
  · obtain ⟨i, hi, rfl⟩ := mem s hs
    obtain ⟨c, r, e, _, h1, h2⟩ := name_head (t := tl) ha hi
    exact ⟨c, r, e, h1, h2⟩
  · have := (ahead_props ha).1
    have := (tail_props ht).1
    omega
  · obtain ⟨i, hi, rfl⟩ := mem s hs
    exact name_len _ _ _
section
variable {k n : Nat}
theorem hd_names {c : Nat} (h : 2 ≤ n) (h1 : 1 ≤ c) (hc : c ≤ 3) : HD k (F n .law_names) [.mr k, .int (c : Nat)] fun d => ∃ ss, d = .lst (ss.map .str) ∧ Names ss := fun m hm => by
  obtain ⟨j, rfl, hj⟩ := pred h
  have key : HS k (b_law_names (F j)) [some (.mr k), some (.int (c : Nat)), none, none, none, none] fun d => ∃ ss, d = .lst (ss.map .str) ∧ Names ss := by
    refine hs_set (Qa := fun x => x = .str signsS) (hf_pure (fun m => rfl) rfl) fun x hx => ?_
    subst hx
    refine hs_set (Qa := fun x => ∃ a ∈ aheads, x = .str a) (hf_pick (l := aheads.map .str) (a := 4) hj (fun m => rfl) rfl (by decide) (fun m => rfl) (fun m => rfl) fun d hd => by
      obtain ⟨s, hs, rfl⟩ := List.mem_map.mp hd
      exact ⟨s, hs, rfl⟩) fun x ⟨a, ha, e⟩ => ?_
    subst e
    refine hs_set (Qa := fun x => ∃ t ∈ tails, x = .str t) (hf_bin (Qa := fun x => ∃ s < 37, x = .str (chS (signsS.cps.toList.getD s 0))) (hf_bin (Qa := fun x => x = .str signsS) (hf_pure (fun m => rfl) rfl) fun x hx => ?_) fun x ⟨s, hs, e⟩ => ?_) fun x ⟨t, ht, e⟩ => ?_
    · subst hx
      refine hf_mono (hf_take (a := 37) hj (by omega) (fun m => rfl) (fun m => rfl)) fun d ⟨z, e, z0, z1⟩ m => ?_
      subst e
      refine ⟨.str (chS (signsS.cps.toList.getD z.toNat 0)), ?_, z.toNat, by omega, rfl⟩
      show (if signsS.length ≤ sizeLine then (atI signsS.cps.toList z).map fun c => D.str ⟨#[c]⟩ else none) = _
      rw [if_pos (sz1000 (by decide +kernel)), atI_nn z0, sign_get (by omega)]; rfl
    · subst e
      refine hf_mono (hf_take (a := 3) hj (by omega) (fun m => rfl) (fun m => rfl)) fun d ⟨z, e, z0, z1⟩ m => ?_
      subst e
      refine ⟨.str (repS (chS (signsS.cps.toList.getD s 0)) z.toNat), ?_, _, List.mem_flatMap.mpr ⟨s, List.mem_range.mpr hs, List.mem_map.mpr ⟨z.toNat, List.mem_range.mpr (by omega), rfl⟩⟩, rfl⟩
      show (if 0 ≤ z ∧ z ≤ 1000 ∧ (chS (signsS.cps.toList.getD s 0)).length ≤ 1000 then some (D.str (repS (chS (signsS.cps.toList.getD s 0)) z.toNat)) else none) = _
      rw [if_pos ⟨z0, by omega, by show (1 : Nat) ≤ 1000; decide⟩]
    · subst e
      refine hs_ret (hf_mono (hf_lc (Qj := fun i x => ∃ z < 8, x = .str (nameS a (8 * i + z) t)) (fun m => rfl) (by omega) fun i hi => ?_) fun d ⟨l, e, hl, hq⟩ => ?_)
      · refine hf_bin (Qa := fun x => ∃ z < 8, x = .str (a ++ chS (97 + (8 * i + z)))) (hf_bin (Qa := fun x => x = .str a) (hf_pure (fun m => rfl) rfl) fun x hx => ?_) fun x ⟨z, hz, e⟩ => ?_
        · subst hx
          refine hf_mono (Qa := fun y => ∃ z < 8, y = .str (chS (97 + (8 * i + z)))) (hf_bin (Qa := fun x => x = .str signsS) (hf_pure (fun m => rfl) rfl) fun x hx => ?_) fun y ⟨z, hz, e⟩ m => ?_
          · subst hx
            refine hf_mono (Qa := fun y => ∃ z < 8, y = .int ((8 * i + z : Nat) : Int)) (hf_bin (Qa := fun x => x = .int ((8 * i : Nat) : Int)) (hf_pure (d := .int ((8 * i : Nat) : Int)) (fun m => x_bin rfl rfl (by
              show (if ((-(2 ^ 64) < (8 : Int) ∧ (8 : Int) < 2 ^ 64) ∨ (-(2 ^ 64) < (i : Int) ∧ (i : Int) < 2 ^ 64)) then some (D.int (8 * (i : Int))) else none) = _
              rw [if_pos (.inl ⟨by decide, by decide⟩)]
              congr 2)) rfl) fun x hx => ?_) fun y ⟨z, hz, e⟩ m => ?_
            · subst hx
              refine hf_mono (hf_take (a := 8) hj (by omega) (fun m => rfl) (fun m => rfl)) fun d ⟨z, e, z0, z1⟩ m => ?_
              subst e
              refine ⟨.int ((8 * i + z.toNat : Nat) : Int), ?_, z.toNat, by omega, rfl⟩
              show some (D.int (((8 * i : Nat) : Int) + z)) = _
              congr 2; omega
            · subst e
              refine ⟨.str (chS (97 + (8 * i + z))), ?_, z, hz, rfl⟩
              show (if signsS.length ≤ sizeLine then (atI signsS.cps.toList ((8 * i + z : Nat) : Int)).map fun c => D.str ⟨#[c]⟩ else none) = _
              rw [if_pos (sz1000 (by decide +kernel)), atI_nn (by omega), show (((8 * i + z : Nat) : Int)).toNat = 8 * i + z from by omega, sign_at (by omega)]; rfl
          · subst e
            refine ⟨.str (a ++ chS (97 + (8 * i + z))), ?_, z, hz, rfl⟩
            show (if a.length + (chS (97 + (8 * i + z))).length ≤ sizeLine then _ else none) = _
            rw [if_pos (sz1000 (by have := (ahead_props ha).1; have : (chS (97 + (8 * i + z))).length = 1 := rfl; omega))]
        · subst e
          refine hf_pure (d := .str t) (fun m => rfl) fun m => ⟨.str (nameS a (8 * i + z) t), ?_, z, hz, rfl⟩
          show (if (a ++ chS (97 + (8 * i + z))).length + t.length ≤ sizeLine then _ else none) = _
          rw [if_pos (sz1000 (by rw [app_len]; have := (ahead_props ha).1; have := (tail_props ht).1; have : (chS (97 + (8 * i + z))).length = 1 := rfl; omega))]
          rfl
      · subst e
        have hss : ∀ l : List D, (∀ x ∈ l, ∃ s, x = .str s) → ∃ ss : List Str, l = ss.map .str := by
          intro l
          induction l with
          | nil => intro _; exact ⟨[], rfl⟩
          | cons x r ih =>
            intro hx
            obtain ⟨s, rfl⟩ := hx x List.mem_cons_self
            obtain ⟨ss, rfl⟩ := ih fun y hy => hx y (List.mem_cons_of_mem _ hy)
            exact ⟨s :: ss, rfl⟩
        obtain ⟨ss, rfl⟩ := hss l fun x hx => by
          obtain ⟨i, e⟩ := get_mem hx
          obtain ⟨z, _, e2⟩ := hq i x e
          exact ⟨_, e2⟩
        rw [List.length_map] at hl
        refine ⟨ss, rfl, names_of ha ht (by intro z; rw [z] at hl; simp at hl; omega) (by omega) fun j s hs => ?_⟩
        obtain ⟨z, hz, e⟩ := hq j (.str s) (by rw [List.getElem?_map, hs]; rfl)
        cases e
        exact ⟨z, hz, rfl⟩
  obtain ⟨d, m', e, s, q⟩ := key m hm
  exact ⟨d, m', Fr_law_names e s.len, s, q⟩
/-! ### the sheet -/
structure Sheet (r : Str) (ps : List (Str × D)) : Prop where
  nms : Names (ps.map Prod.fst)
  root : r ∈ ps.map Prod.fst
  tms : ∀ p ∈ ps, Loose (ps.map Prod.fst) 2 p.2
theorem name_sm {ss : List Str} (N : Names ss) {s : Str} (h : s ∈ ss) : smD (.str s) = true := by
  obtain ⟨w, hw, hl⟩ := N.lw
  exact decide_eq_true (by rw [hl s h]; omega)
theorem Sheet.sh {r : Str} {ps : List (Str × D)} (S : Sheet r ps) : Sh r ps := by
  have hl : ps.length ≤ 3 := by have := S.nms.len; simpa using this
  refine ⟨fun z => S.nms.ne (by rw [z]; rfl), by omega, fun p hp => S.nms.nm _ (List.mem_map.mpr ⟨p, hp, rfl⟩), fun p hp => (S.tms p hp).tw 12 (by omega), sm_tupI (by simp) fun x hx => ?_, S.nms.asc, S.nms.nd, S.root, fun p hp s hs => (S.tms p hp).refs 12 s hs, fun p hp => Nat.le_trans (refs_few (S.tms p hp).few) (by decide), fun p hp => Nat.le_trans (paths_few (S.tms p hp).few) (by decide)⟩
  simp at hx
  rcases hx with rfl | rfl
  · exact name_sm S.nms S.root
  · refine sm_tupI (by simp; omega) fun x hx => ?_
    obtain ⟨p, hp, rfl⟩ := List.mem_map.mp hx
    refine sm_tupI (by simp) fun y hy => ?_
    simp at hy
    rcases hy with rfl | rfl
    · exact name_sm S.nms (List.mem_map.mpr ⟨p, hp, rfl⟩)
    · exact (S.tms p hp).sm
theorem hd_sheet (h : 12 ≤ n) : HD k (F n .law_loose_sheet) [.mr k] fun d => ∃ r ps, d = shD r ps ∧ Sheet r ps := fun m hm => by
  obtain ⟨j, rfl, hj⟩ := pred h
  have key : HS k (b_law_loose_sheet (F j)) [some (.mr k), none, none, none] fun d => ∃ r ps, d = shD r ps ∧ Sheet r ps := by
    refine hs_set (Qa := fun x => ∃ ss, x = .lst (ss.map .str) ∧ Names ss) (hf_call2 (Qb := fun x => ∃ z : Nat, x = .int (z : Nat) ∧ 1 ≤ z ∧ (z : Int) ≤ 3) (fun m => rfl) (hf_inc (hf_take (a := 3) (by omega) (by omega) (fun m => rfl) (fun m => rfl))) fun x ⟨z, e, h1, h2⟩ => by subst e; exact hd_names (by omega) h1 (by omega)) fun x ⟨ss, e, N⟩ => ?_
    subst e
    have hlen : ∀ z2 z3 m, fApp lenG (f1 (fV 1)) [some (.mr k), some (.lst (ss.map .str)), z2, z3] m = some (.int (ss.length : Nat), m) := fun z2 z3 m => by
      have : fApp lenG (f1 (fV 1)) [some (.mr k), some (.lst (ss.map .str)), z2, z3] m = some (.int ((ss.map D.str).length : Nat), m) := rfl
      rw [List.length_map] at this; exact this
    refine hs_set (hf_lc (Qj := fun i x => ∃ s t, ss[i]? = some s ∧ x = .tup [.str s, t] ∧ Loose ss 2 t) (hlen _ _) (by have := N.len; omega) fun i hi => ?_) fun x ⟨l, e, hl, hq⟩ => ?_
    · have hsi : ss[i]? = some ss[i] := List.getElem?_eq_getElem hi
      refine hf_tup2 (Qa := fun x => x = .str ss[i]) (hf_pure (d := .str ss[i]) (fun m => x_bin rfl rfl (ix_get (by rw [List.getElem?_map, hsi]; rfl))) rfl) fun x hx => ?_
      subst hx
      have nmok : ∀ s ∈ ss, nameB (.str s) = true ∧ smD (.str s) = true := fun s hs => ⟨N.nm s hs, name_sm N hs⟩
      by_cases h0 : i = 0
      · subst h0
        refine hf_mono (hf_call3 (e := .int ((2 : Nat) : Int)) (fun m => rfl) (fun m => rfl) (fun m => rfl) (hd_loose N.ne N.len nmok 2 j (by omega) (by omega))) fun t ht => ⟨_, t, hsi, rfl, ht⟩
      · refine hf_mono (hf_call3 (e := .int ((1 : Nat) : Int)) (fun m => rfl) (fun m => rfl) (fun m => ?_) (hd_loose N.ne N.len nmok 1 j (by omega) (by omega))) fun t ht => ⟨_, t, hsi, rfl, ?_⟩
        · refine x_bin (a := .int 2) (b := .int 1) rfl (x_app1 (a := .bl true) (x_bin rfl rfl ?_) rfl) rfl
          show some (D.bl (decide ((0 : Int) < (i : Int)))) = _
          rw [decide_eq_true (by omega)]
        · exact ⟨fun k hk => ht.tw k (by omega), few_mono ht.few (by omega), ht.sm, dOk_mono ht.dok (by omega), ht.refs⟩
    · subst e
      have hps : ∀ (l : List D) (ss' : List Str), l.length = ss'.length → (∀ (i : Nat) (x : D), l[i]? = some x → ∃ (s : Str) (t : D), ss'[i]? = some s ∧ x = D.tup [.str s, t] ∧ Loose ss 2 t) → ∃ ps : List (Str × D), l = ps.map entD ∧ ps.map Prod.fst = ss' ∧ ∀ p ∈ ps, Loose ss 2 p.2 := by
        intro l
        induction l with
        | nil =>
          intro ss' hl' _
          cases ss' with
          | nil => exact ⟨[], rfl, rfl, by simp⟩
          | cons _ _ => simp at hl'
        | cons x r ih =>
          intro ss' hl' hq'
          cases ss' with
          | nil => simp at hl'
          | cons s0 sr =>
            obtain ⟨s, t, e1, rfl, ht⟩ := hq' 0 x rfl
            have e1 : s0 = s := by simpa using e1
            subst e1
            obtain ⟨ps, rfl, e2, hp⟩ := ih sr (by simpa using hl') fun i y hy => by
              obtain ⟨s', t', h1, h2, h3⟩ := hq' (i + 1) y (by simpa using hy)
              exact ⟨s', t', by simpa using h1, h2, h3⟩
            refine ⟨(s0, t) :: ps, rfl, by simp [e2], fun p hp' => ?_⟩
            rcases List.mem_cons.mp hp' with rfl | hp'
            · exact ht
            · exact hp p hp'
      obtain ⟨ps, rfl, e2, hp⟩ := hps l ss hl hq
      refine hs_ret (hf_tup2 (Qa := fun x => ∃ s ∈ ss, x = .str s) (hf_pick (l := ss.map .str) (a := (ss.length : Int)) (by omega) (fun m => rfl) (by simp) (by have := List.length_pos_iff.mpr N.ne; omega) (fun m => rfl) (hlen _ _) fun d hd => ?_) fun x ⟨s, hs, e⟩ => ?_)
      · obtain ⟨s, hs, rfl⟩ := List.mem_map.mp hd
        exact ⟨s, hs, rfl⟩
      · subst e
        refine hf_pure (d := .tup (ps.map entD)) (fun m => x_app1 rfl rfl) ⟨s, ps, rfl, ?_⟩
        rw [← e2] at N hs hp
        exact ⟨N, hs, hp⟩
  obtain ⟨d, m', e, s, q⟩ := key m hm
  exact ⟨d, m', Fr_law_loose_sheet e s.len, s, q⟩
end
end KK
end
section
set_option Elab.async false
set_option linter.all false
set_option maxRecDepth 100000
namespace KK
open PySem PySem.Spec PyProof.Rows L2 DL
/-! ### the written terms: right ones, wrong ones -/
def HA (k : Nat) (fs : FA) (ε : Ev) (Q : List D → Prop) : Prop := ∀ m, IsBag k m → ∃ l m', fs ε m = some (l, m') ∧ St k m m' ∧ Q l
section
variable {k n : Nat} {ε : Ev} {f g fa fb fc : DL.F} {fs : FA} {Q Qa Qb : D → Prop} {P P2 : List D → Prop} {d : D}
theorem ha_pure {l : List D} (h : ∀ m, fs ε m = some (l, m)) (q : P l) : HA k fs ε P := fun m hb => ⟨l, m, h m, St.refl hb, q⟩
theorem ha_nil (q : P []) : HA k faNil ε P := ha_pure (fun m => rfl) q
theorem ha_cons (ha : HF k f ε Qa) (h : ∀ a, Qa a → HA k fs ε fun l => P (a :: l)) : HA k (faCons f fs) ε P := fun m hm => by
  obtain ⟨a, m1, e1, s1, qa⟩ := ha m hm
  obtain ⟨l, m2, e2, s2, q⟩ := h a qa m1 (s1.bag hm)
  exact ⟨a :: l, m2, by unfold faCons; rw [e1]; simp only [Option.bind_some]; rw [e2]; rfl, s1.trans s2, q⟩
theorem hf_lstA (h : HA k fs ε fun l => l.length ≤ 1000 ∧ Q (.lst l)) : HF k (fLst fs) ε Q := fun m hm => by
  obtain ⟨l, m1, e1, s1, h1, q⟩ := h m hm
  exact ⟨_, m1, by unfold fLst; rw [e1]; simp only [Option.bind_some]; rw [if_pos (sz1000 h1)], s1, q⟩
theorem hf_callA {c : FD} (ha : HA k fs ε P) (h : ∀ l, P l → HD k c l Q) : HF k (fCall c fs) ε Q := fun m hm => by
  obtain ⟨l, m1, e1, s1, q⟩ := ha m hm
  obtain ⟨d, m2, e2, s2, q2⟩ := h l q m1 (s1.bag hm)
  exact ⟨d, m2, by unfold fCall; rw [e1]; exact e2, s1.trans s2, q2⟩
theorem hd_pure {c : FD} {l : List D} (h : ∀ m, c l m = some (d, m)) (q : Q d) : HD k c l Q := fun m hb => ⟨d, m, h m, St.refl hb, q⟩
theorem add_lst {m : M} {a b : List D} (h : a.length + b.length ≤ 1000) : addG (.lst a) (.lst b) m = some (.lst (a ++ b)) := by
  show (if a.length + b.length ≤ sizeLine then some (D.lst (a ++ b)) else none) = _
  rw [if_pos (sz1000 h)]
def nestL (t : D) : List D := [.tup [.str (Str.ofString "row"), .tup [t]], .tup [.str (Str.ofString "times"), .int 2, t], .tup [.str (Str.ofString "until"), .str (Str.ofString "0"), t], .tup [.str (Str.ofString "either"), .tup [.tup [.str (Str.ofString "a"), .str (Str.ofString "0"), t]]]] ++
  [.tup [.str (Str.ofString "counted"), t, .tup [.str (Str.ofString "row"), .tup []]], .tup [.str (Str.ofString "sized"), .tup [.str (Str.ofString "bits"), .str (Str.ofString "")], t], .tup [.str (Str.ofString "checked"), .tup [.tup [.int 0, .int 0, .str (Str.ofString "0")]], t]]
def deepT (t : Nat) : Nat → D
  | 0 => .tup [.str (Str.ofString "bits"), .str (Str.ofString "1")]
  | k + 1 => ((nestL (deepT t k))[(k + t) % 7]?).getD .non
theorem mod7 (lo t : Nat) (m : M) : modG (.int (((lo : Nat) : Int) + ((t : Nat) : Int))) (.int 7) m = some (.int (((lo + t) % 7 : Nat) : Int)) := by
  show (if (7 : Int) ≠ 0 then some (D.int (Int.fmod ((lo : Int) + (t : Int)) 7)) else none) = _
  rw [if_pos (by decide), Int.fmod_eq_emod_of_nonneg _ (by decide)]
  congr 2
theorem ev_deep {m : M} (h : 1 ≤ n) (c t : Nat) (hc : c ≤ 100) : F n .law_deep [.int ((c + 1 : Nat) : Int), .int (t : Nat)] m = some (deepT t c, m) := by
  obtain ⟨j, rfl, hj⟩ := pred h
  have loop : ∀ (n lo : Nat) (z3 z4 : Option D), ∃ z3' z4', loopD (stN 3) (sSeq (sSet 4 (fLst (faCons (fTup (faCons (fC (.str (Str.ofString "row"))) (faCons (fTup (faCons (fV 2) (faNil))) (faNil)))) (faCons (fTup (faCons (fC (.str (Str.ofString "times"))) (faCons (fC (.int 2)) (faCons (fV 2) (faNil))))) (faCons (fTup (faCons (fC (.str (Str.ofString "until"))) (faCons (fC (.str (Str.ofString "0"))) (faCons (fV 2) (faNil))))) (faCons (fTup (faCons (fC (.str (Str.ofString "either"))) (faCons (fTup (faCons (fTup (faCons (fC (.str (Str.ofString "a"))) (faCons (fC (.str (Str.ofString "0"))) (faCons (fV 2) (faNil))))) (faNil))) (faNil)))) (faNil))))))) (sSeq (sSet 4 (fBin addG (fV 4) (fLst (faCons (fTup (faCons (fC (.str (Str.ofString "counted"))) (faCons (fV 2) (faCons (fTup (faCons (fC (.str (Str.ofString "row"))) (faCons (fTup (faNil)) (faNil)))) (faNil))))) (faCons (fTup (faCons (fC (.str (Str.ofString "sized"))) (faCons (fTup (faCons (fC (.str (Str.ofString "bits"))) (faCons (fC (.str (Str.ofString ""))) (faNil)))) (faCons (fV 2) (faNil))))) (faCons (fTup (faCons (fC (.str (Str.ofString "checked"))) (faCons (fTup (faCons (fTup (faCons (fC (.int 0)) (faCons (fC (.int 0)) (faCons (fC (.str (Str.ofString "0"))) (faNil))))) (faNil))) (faCons (fV 2) (faNil))))) (faNil))))))) (sSet 2 (fBin ixG (fV 4) (fBin modG (fApp intG (f1 (fBin addG (fV 3) (fV 1)))) (fC (.int 7)))))))
      (rngD (lo : Int) n) [some (.int ((c + 1 : Nat) : Int)), some (.int (t : Nat)), some (deepT t lo), z3, z4] m = some (.nx [some (.int ((c + 1 : Nat) : Int)), some (.int (t : Nat)), some (deepT t (lo + n)), z3', z4'] m) := by
    intro n
    induction n with
    | zero => intro lo z3 z4; exact ⟨z3, z4, rfl⟩
    | succ n ih =>
      intro lo z3 z4
      have hlt : (lo + t) % 7 < (nestL (deepT t lo)).length := Nat.lt_of_lt_of_le (Nat.mod_lt _ (by decide)) (by show 7 ≤ 7; decide)
      obtain ⟨w3, w4, e⟩ := ih (lo + 1) (some (.int (lo : Nat))) (some (.lst (nestL (deepT t lo))))
      refine ⟨w3, w4, ?_⟩
      rw [rngD_succ]
      unfold loopD
      have e1 : stN 3 (.int (lo : Nat)) [some (.int ((c + 1 : Nat) : Int)), some (.int (t : Nat)), some (deepT t lo), z3, z4] = some [some (.int ((c + 1 : Nat) : Int)), some (.int (t : Nat)), some (deepT t lo), some (.int (lo : Nat)), z4] := rfl
      rw [e1, Option.bind_some]
      have body := x_seq (s2 := sSeq (sSet 4 (fBin addG (fV 4) (fLst (faCons (fTup (faCons (fC (.str (Str.ofString "counted"))) (faCons (fV 2) (faCons (fTup (faCons (fC (.str (Str.ofString "row"))) (faCons (fTup (faNil)) (faNil)))) (faNil))))) (faCons (fTup (faCons (fC (.str (Str.ofString "sized"))) (faCons (fTup (faCons (fC (.str (Str.ofString "bits"))) (faCons (fC (.str (Str.ofString ""))) (faNil)))) (faCons (fV 2) (faNil))))) (faCons (fTup (faCons (fC (.str (Str.ofString "checked"))) (faCons (fTup (faCons (fTup (faCons (fC (.int 0)) (faCons (fC (.int 0)) (faCons (fC (.str (Str.ofString "0"))) (faNil))))) (faNil))) (faCons (fV 2) (faNil))))) (faNil))))))) (sSet 2 (fBin ixG (fV 4) (fBin modG (fApp intG (f1 (fBin addG (fV 3) (fV 1)))) (fC (.int 7))))))
        (x_set (i := 4) (f := fLst (faCons (fTup (faCons (fC (.str (Str.ofString "row"))) (faCons (fTup (faCons (fV 2) (faNil))) (faNil)))) (faCons (fTup (faCons (fC (.str (Str.ofString "times"))) (faCons (fC (.int 2)) (faCons (fV 2) (faNil))))) (faCons (fTup (faCons (fC (.str (Str.ofString "until"))) (faCons (fC (.str (Str.ofString "0"))) (faCons (fV 2) (faNil))))) (faCons (fTup (faCons (fC (.str (Str.ofString "either"))) (faCons (fTup (faCons (fTup (faCons (fC (.str (Str.ofString "a"))) (faCons (fC (.str (Str.ofString "0"))) (faCons (fV 2) (faNil))))) (faNil))) (faNil)))) (faNil)))))) (ε := [some (.int ((c + 1 : Nat) : Int)), some (.int (t : Nat)), some (deepT t lo), some (.int (lo : Nat)), z4]) (m := m) rfl)
        (x_seq (x_set (i := 4) (x_bin (G := addG) rfl rfl rfl)) (x_set (i := 2) (x_bin (G := ixG) (a := .lst (nestL (deepT t lo))) rfl (x_bin (G := modG) (x_app1 (G := intG) (x_bin (G := addG) rfl rfl rfl) rfl) rfl (mod7 lo t m)) (ix_get (List.getElem?_eq_getElem hlt)))))
      have hd : deepT t (lo + 1) = (nestL (deepT t lo))[(lo + t) % 7] := by
        show ((nestL (deepT t lo))[(lo + t) % 7]?).getD .non = _
        rw [List.getElem?_eq_getElem hlt]; rfl
      have e' : loopD (stN 3) _ (rngD (((lo + 1 : Nat)) : Int) n) _ m = _ := e
      rw [hd] at e
      rw [show lo + 1 + n = lo + (n + 1) by omega] at e
      exact (congrArg (fun o => Option.bind o _) body).trans e
  obtain ⟨z3', z4', e⟩ := loop c 0 none none
  rw [Nat.zero_add] at e
  refine Fr_law_deep (x_seq (x_set rfl) (x_seq (ε1 := [some (.int ((c + 1 : Nat) : Int)), some (.int (t : Nat)), some (deepT t c), z3', z4']) (m1 := m) ?_ rfl))
  have hr : fRng1 (fBin subG (fV 0) (fC (.int 1))) [some (.int ((c + 1 : Nat) : Int)), some (.int (t : Nat)), some (deepT t 0), none, none] m = some (rngD 0 c, m) := x_rng1 (x_bin (G := subG) rfl rfl (show some (D.int (((c + 1 : Nat) : Int) - 1)) = _ by congr 2; omega)) (by omega)
  show (fRng1 _ [some (.int ((c + 1 : Nat) : Int)), some (.int (t : Nat)), some (deepT t 0), none, none] m).bind _ = _
  rw [hr]
  exact e
end
def R0 (t : Nat) : List D := [.tup [.str (Str.ofString "bits"), .str (repS (Str.ofString "01") 200)], .tup [.str (Str.ofString "bits"), .str (Str.ofString "")], .tup [.str (Str.ofString "table"), .tup []], .tup [.str (Str.ofString "width"), .int 8], .tup [.str (Str.ofString "width"), .int 0], .tup [.str (Str.ofString "row"), .tup []], .tup [.str (Str.ofString "either"), .tup []]]
def R1 (t : Nat) : List D := [.tup [.str (Str.ofString "times"), .int 8, .tup [.str (Str.ofString "bits"), .str (Str.ofString "01")]], .tup [.str (Str.ofString "times"), .int 0, .tup [.str (Str.ofString "bits"), .str (Str.ofString "01")]], .tup [.str (Str.ofString "until"), .str (Str.ofString "010101"), .tup [.str (Str.ofString "bits"), .str (Str.ofString "01")]], .tup [.str (Str.ofString "until"), .str (Str.ofString "1"), .tup [.str (Str.ofString "row"), .tup []]]]
def R2 (t : Nat) : List D := [.tup [.str (Str.ofString "table"), .tup [.tup [.str (repS (Str.ofString "z") 12), .str (repS (Str.ofString "0") 400)], .tup [.int (9999999999999999999999999999999999999999), .str (Str.ofString "")], .tup [.int (-9999999999999999999999999999999999999999), .str (Str.ofString "1")]]]]
def R3 (t : Nat) : List D := [.tup [.str (Str.ofString "table"), .tup [.tup [.int 1, .str (Str.ofString "0")], .tup [.str (Str.ofString "1"), .str (Str.ofString "0")]]], .tup [.str (Str.ofString "either"), .tup [.tup [.str (Str.ofString ""), .str (Str.ofString ""), .tup [.str (Str.ofString "bits"), .str (Str.ofString "01")]], .tup [.str (Str.ofString " ~"), .str (repS (Str.ofString "1") 400), .tup [.str (Str.ofString "bits"), .str (Str.ofString "01")]]]]]
def R4 (t : Nat) : List D := [.tup [.str (Str.ofString "checked"), .tup [.tup [.int 7, .int 0, .str (Str.ofString "1111")], .tup [.int 7, .int 0, .str (Str.ofString "1111")], .tup [.int 7, .int 0, .str (Str.ofString "1111")], .tup [.int 7, .int 0, .str (Str.ofString "1111")], .tup [.int 7, .int 0, .str (Str.ofString "1111")], .tup [.int 7, .int 0, .str (Str.ofString "1111")], .tup [.int 7, .int 0, .str (Str.ofString "1111")], .tup [.int 7, .int 0, .str (Str.ofString "1111")]], .tup [.str (Str.ofString "bits"), .str (Str.ofString "01")]], .tup [.str (Str.ofString "checked"), .tup [.tup [.int 0, .int 0, .str (Str.ofString "0")]], .tup [.str (Str.ofString "row"), .tup [.tup [.str (Str.ofString "bits"), .str (Str.ofString "01")], .tup [.str (Str.ofString "bits"), .str (Str.ofString "01")]]]]]
def R5 (t : Nat) : List D := [.tup [.str (Str.ofString "counted"), .tup [.str (Str.ofString "bits"), .str (Str.ofString "01")], .tup [.str (Str.ofString "bits"), .str (Str.ofString "01")]], .tup [.str (Str.ofString "sized"), .tup [.str (Str.ofString "table"), .tup [.tup [.str (Str.ofString "x"), .str (Str.ofString "0")]]], .tup [.str (Str.ofString "row"), .tup []]], deepT t 11]
def R6 (t : Nat) : List D := [.tup [.str (Str.ofString "either"), .tup [.tup [.str (Str.ofString "a b-c_d.e~f!"), .str (Str.ofString ""), .tup [.str (Str.ofString "bits"), .str (Str.ofString "01")]]]]]
def RL (t : Nat) : List D := ((((((R0 t) ++ R1 t) ++ R2 t) ++ R3 t) ++ R4 t) ++ R5 t) ++ R6 t
def W0 (t : Nat) : List D := [.non, .bl true, .int 5, .str (Str.ofString "bits"), .tup [], .tup [.str (Str.ofString "bits")], .lst [.str (Str.ofString "bits"), .str (Str.ofString "01")], .tup [.str (Str.ofString "bits"), .str (Str.ofString "01"), .str (Str.ofString "1")], .tup [.str (Str.ofString "bit"), .str (Str.ofString "01")], .tup [.non, .str (Str.ofString "01")]]
def W1 (t : Nat) : List D := [.tup [.str (Str.ofString "bits"), .str (Str.ofString "02")], .tup [.str (Str.ofString "bits"), .str (repS (Str.ofString "0") 401)], .tup [.str (Str.ofString "bits"), .int 1], .tup [.str (Str.ofString "bits"), .tup [.str (Str.ofString "0")]], .tup [.str (Str.ofString "width"), .int 9], .tup [.str (Str.ofString "width"), .int (-1)]]
def W2 (t : Nat) : List D := [.tup [.str (Str.ofString "width"), .bl true], .tup [.str (Str.ofString "width"), .str (Str.ofString "3")], .tup [.str (Str.ofString "width"), .non], .tup [.str (Str.ofString "row"), .lst [.tup [.str (Str.ofString "bits"), .str (Str.ofString "01")]]], .tup [.str (Str.ofString "row"), .tup [.str (Str.ofString "bits"), .str (Str.ofString "01")]], .tup [.str (Str.ofString "row"), .tup [.non]]]
def W3 (t : Nat) : List D := [.tup [.str (Str.ofString "row"), .tup [.tup [.str (Str.ofString "bits"), .str (Str.ofString "01")], .tup [.str (Str.ofString "bits"), .int 0]]], .tup [.str (Str.ofString "table"), .lst [.tup [.str (Str.ofString "x"), .str (Str.ofString "0")]]], .tup [.str (Str.ofString "table"), .tup [.tup [.str (Str.ofString "x"), .str (Str.ofString "0")], .tup [.str (Str.ofString "x"), .str (Str.ofString "1")]]]]
def W4 (t : Nat) : List D := [.tup [.str (Str.ofString "table"), .tup [.tup [.int 3, .str (Str.ofString "0")], .tup [.int 3, .str (Str.ofString "1")]]], .tup [.str (Str.ofString "table"), .tup [.tup [.bl true, .str (Str.ofString "0")]]], .tup [.str (Str.ofString "table"), .tup [.tup [.str (repS (Str.ofString "x") 13), .str (Str.ofString "0")]]]]
def W5 (t : Nat) : List D := [.tup [.str (Str.ofString "table"), .tup [.tup [.int (10000000000000000000000000000000000000000), .str (Str.ofString "0")]]], .tup [.str (Str.ofString "table"), .tup [.tup [.int (-10000000000000000000000000000000000000000), .str (Str.ofString "0")]]], .tup [.str (Str.ofString "table"), .tup [.tup [.str (Str.ofString "a'"), .str (Str.ofString "0")]]]]
def W6 (t : Nat) : List D := [.tup [.str (Str.ofString "table"), .tup [.tup [.str (Str.ofString "a\\"), .str (Str.ofString "0")]]], .tup [.str (Str.ofString "table"), .tup [.tup [.str (Str.ofString "a\n"), .str (Str.ofString "0")]]], .tup [.str (Str.ofString "table"), .tup [.tup [.str (Str.ofString "x"), .str (Str.ofString "0"), .str (Str.ofString "1")]]]]
def W7 (t : Nat) : List D := [.tup [.str (Str.ofString "table"), .tup [.lst [.str (Str.ofString "x"), .str (Str.ofString "0")]]], .tup [.str (Str.ofString "table"), .tup [.tup [.str (Str.ofString "x"), .str (repS (Str.ofString "0") 401)]]], .tup [.str (Str.ofString "table"), .tup [.tup [.non, .str (Str.ofString "0")]]]]
def W8 (t : Nat) : List D := [.tup [.str (Str.ofString "table"), .tup [.tup [.tup [], .str (Str.ofString "0")]]], .tup [.str (Str.ofString "either"), .lst [.tup [.str (Str.ofString "x"), .str (Str.ofString "0"), .tup [.str (Str.ofString "bits"), .str (Str.ofString "01")]]]], .tup [.str (Str.ofString "either"), .tup [.tup [.str (Str.ofString "x"), .str (Str.ofString "0")]]]]
def W9 (t : Nat) : List D := [.tup [.str (Str.ofString "either"), .tup [.tup [.str (Str.ofString "x"), .str (Str.ofString "0"), .tup [.str (Str.ofString "bits"), .str (Str.ofString "01")]], .tup [.str (Str.ofString "x"), .str (Str.ofString "1"), .tup [.str (Str.ofString "bits"), .str (Str.ofString "01")]]]], .tup [.str (Str.ofString "either"), .tup [.tup [.int 1, .str (Str.ofString "0"), .tup [.str (Str.ofString "bits"), .str (Str.ofString "01")]]]]]
def W10 (t : Nat) : List D := [.tup [.str (Str.ofString "either"), .tup [.tup [.str (Str.ofString "x"), .int 0, .tup [.str (Str.ofString "bits"), .str (Str.ofString "01")]]]], .tup [.str (Str.ofString "either"), .tup [.tup [.str (Str.ofString "x"), .str (Str.ofString "0"), .non]]], .tup [.str (Str.ofString "either"), .tup [.tup [.str (Str.ofString "x"), .str (Str.ofString "b"), .tup [.str (Str.ofString "bits"), .str (Str.ofString "01")]]]]]
def W11 (t : Nat) : List D := [.tup [.str (Str.ofString "times"), .int 9, .tup [.str (Str.ofString "bits"), .str (Str.ofString "01")]], .tup [.str (Str.ofString "times"), .int (-1), .tup [.str (Str.ofString "bits"), .str (Str.ofString "01")]], .tup [.str (Str.ofString "times"), .bl true, .tup [.str (Str.ofString "bits"), .str (Str.ofString "01")]], .tup [.str (Str.ofString "times"), .tup [.str (Str.ofString "bits"), .str (Str.ofString "01")], .int 2], .tup [.str (Str.ofString "times"), .int 2]]
def W12 (t : Nat) : List D := [.tup [.str (Str.ofString "counted"), .tup [.str (Str.ofString "bits"), .str (Str.ofString "01")]], .tup [.str (Str.ofString "counted"), .int 2, .tup [.str (Str.ofString "bits"), .str (Str.ofString "01")]], .tup [.str (Str.ofString "sized"), .tup [.str (Str.ofString "bits"), .str (Str.ofString "01")], .non], .tup [.str (Str.ofString "sized"), .tup [.str (Str.ofString "bits"), .str (Str.ofString "01")], .tup [.str (Str.ofString "bits"), .str (Str.ofString "01")], .tup [.str (Str.ofString "bits"), .str (Str.ofString "01")]]]
def W13 (t : Nat) : List D := [.tup [.str (Str.ofString "until"), .str (Str.ofString ""), .tup [.str (Str.ofString "bits"), .str (Str.ofString "01")]], .tup [.str (Str.ofString "until"), .str (Str.ofString "0000000"), .tup [.str (Str.ofString "bits"), .str (Str.ofString "01")]], .tup [.str (Str.ofString "until"), .tup [.str (Str.ofString "bits"), .str (Str.ofString "01")], .str (Str.ofString "0")], .tup [.str (Str.ofString "until"), .str (Str.ofString "2"), .tup [.str (Str.ofString "bits"), .str (Str.ofString "01")]]]
def W14 (t : Nat) : List D := [.tup [.str (Str.ofString "checked"), .tup [], .tup [.str (Str.ofString "bits"), .str (Str.ofString "01")]], .tup [.str (Str.ofString "checked"), .tup [.tup [.int 0, .int 0, .str (Str.ofString "0")], .tup [.int 0, .int 0, .str (Str.ofString "0")], .tup [.int 0, .int 0, .str (Str.ofString "0")], .tup [.int 0, .int 0, .str (Str.ofString "0")], .tup [.int 0, .int 0, .str (Str.ofString "0")], .tup [.int 0, .int 0, .str (Str.ofString "0")], .tup [.int 0, .int 0, .str (Str.ofString "0")], .tup [.int 0, .int 0, .str (Str.ofString "0")], .tup [.int 0, .int 0, .str (Str.ofString "0")]], .tup [.str (Str.ofString "bits"), .str (Str.ofString "01")]], .tup [.str (Str.ofString "checked"), .tup [.tup [.int 0, .int 1, .str (Str.ofString "0")]], .tup [.str (Str.ofString "bits"), .str (Str.ofString "01")]]]
def W15 (t : Nat) : List D := [.tup [.str (Str.ofString "checked"), .tup [.tup [.int 0, .int 0, .str (Str.ofString "")]], .tup [.str (Str.ofString "bits"), .str (Str.ofString "01")]], .tup [.str (Str.ofString "checked"), .tup [.tup [.int 0, .int 0, .str (Str.ofString "00000")]], .tup [.str (Str.ofString "bits"), .str (Str.ofString "01")]]]
def W16 (t : Nat) : List D := [.tup [.str (Str.ofString "checked"), .tup [.tup [.int 0, .int 1, .str (Str.ofString "0")], .tup [.int 1, .int 0, .str (Str.ofString "01")]], .tup [.str (Str.ofString "bits"), .str (Str.ofString "01")]], .tup [.str (Str.ofString "checked"), .tup [.tup [.bl false, .int 0, .str (Str.ofString "0")]], .tup [.str (Str.ofString "bits"), .str (Str.ofString "01")]]]
def W17 (t : Nat) : List D := [.tup [.str (Str.ofString "checked"), .tup [.tup [.int 0, .int (-1), .str (Str.ofString "0")]], .tup [.str (Str.ofString "bits"), .str (Str.ofString "01")]], .tup [.str (Str.ofString "checked"), .tup [.tup [.int 0, .int 0]], .tup [.str (Str.ofString "bits"), .str (Str.ofString "01")]], .tup [.str (Str.ofString "checked"), .lst [.tup [.int 0, .int 0, .str (Str.ofString "0")]], .tup [.str (Str.ofString "bits"), .str (Str.ofString "01")]]]
def W18 (t : Nat) : List D := [.tup [.str (Str.ofString "ref"), .str (Str.ofString "")], .tup [.str (Str.ofString "ref"), .str (Str.ofString "A")], .tup [.str (Str.ofString "ref"), .str (Str.ofString "1a")], .tup [.str (Str.ofString "ref"), .str (repS (Str.ofString "a") 13)], .tup [.str (Str.ofString "ref"), .non], .tup [.str (Str.ofString "ref"), .tup [.str (Str.ofString "a")]]]
def W19 (t : Nat) : List D := [.tup [.str (Str.ofString "ref"), .str (Str.ofString "a b")], deepT t 12, .tup [.str (Str.ofString "table"), .tup [.tup [.str (Str.ofString "x"), .str (Str.ofString "0")], .non]], .tup [.lst [.str (Str.ofString "bits")], .str (Str.ofString "01")]]
def W20 (t : Nat) : List D := [.tup [.str (Str.ofString "either"), .tup [.tup [.str (repS (Str.ofString "x") 13), .str (Str.ofString "0"), .tup [.str (Str.ofString "bits"), .str (Str.ofString "01")]]]], .tup [.str (Str.ofString "either"), .tup [.tup [.str (Str.ofString "it's"), .str (Str.ofString "0"), .tup [.str (Str.ofString "bits"), .str (Str.ofString "01")]]]], .tup [.str (Str.ofString "table"), .tup [.tup [.str (Str.ofString "x"), .str (Str.ofString "02")]]]]
def W21 (t : Nat) : List D := [.tup [.str (Str.ofString "table"), .tup [.tup [.str (Str.ofString "x"), .int 0]]], .tup [.str (Str.ofString "table"), .tup [.tup [.str (Str.ofString "x"), .non]]], .tup [.str (Str.ofString "either"), .tup [.tup [.str (Str.ofString "x"), .str (repS (Str.ofString "0") 401), .tup [.str (Str.ofString "bits"), .str (Str.ofString "01")]]]]]
def W22 (t : Nat) : List D := [.tup [.str (Str.ofString "either"), .tup [.lst [.str (Str.ofString "x"), .str (Str.ofString "0"), .tup [.str (Str.ofString "bits"), .str (Str.ofString "01")]]]], .tup [.str (Str.ofString "checked"), .tup [.tup [.int 0, .int 0, .str (Str.ofString "2")]], .tup [.str (Str.ofString "bits"), .str (Str.ofString "01")]], .tup [.str (Str.ofString "checked"), .tup [.tup [.int 0, .int 0, .int 5]], .tup [.str (Str.ofString "bits"), .str (Str.ofString "01")]]]
def W23 (t : Nat) : List D := [.tup [.str (Str.ofString "checked"), .tup [.tup [.int 0, .bl false, .str (Str.ofString "0")]], .tup [.str (Str.ofString "bits"), .str (Str.ofString "01")]], .tup [.str (Str.ofString "table"), .tup [.tup [.lst [], .str (Str.ofString "0")]]], .tup [.str (Str.ofString "either"), .tup [.tup [.lst [], .str (Str.ofString "0"), .tup [.str (Str.ofString "bits"), .str (Str.ofString "01")]]]]]
def W24 (t : Nat) : List D := [.tup [.str (Str.ofString "table"), .tup [.tup [.str (Str.ofString "x"), .str (Str.ofString "0")], .tup [.str (Str.ofString "y"), .str (Str.ofString "1")], .tup [.str (Str.ofString "x"), .str (Str.ofString "00")]]], .tup [.str (Str.ofString "checked"), .tup [.tup [.int 0, .int 0, .str (Str.ofString "0")], .tup [.int 0, .int 0, .str (Str.ofString "1")], .tup [.int 0, .int 0, .str (Str.ofString "01")]], .tup [.str (Str.ofString "bits"), .str (Str.ofString "01")]]]
def W25 (t : Nat) : List D := [.tup [.str (Str.ofString "either"), .tup [.tup [.str (Str.ofString "x"), .str (Str.ofString "0"), .tup [.str (Str.ofString "bits"), .str (Str.ofString "01")]], .tup [.str (Str.ofString "y"), .str (Str.ofString "1"), .tup [.str (Str.ofString "bits"), .str (Str.ofString "01")]], .tup [.str (Str.ofString "x"), .str (Str.ofString "00"), .tup [.str (Str.ofString "bits"), .str (Str.ofString "01")]]]]]
def WL (t : Nat) : List D := (((((((((((((((((((((((((W0 t) ++ W1 t) ++ W2 t) ++ W3 t) ++ W4 t) ++ W5 t) ++ W6 t) ++ W7 t) ++ W8 t) ++ W9 t) ++ W10 t) ++ W11 t) ++ W12 t) ++ W13 t) ++ W14 t) ++ W15 t) ++ W16 t) ++ W17 t) ++ W18 t) ++ W19 t) ++ W20 t) ++ W21 t) ++ W22 t) ++ W23 t) ++ W24 t) ++ W25 t

end KK
end
section
set_option Elab.async false
set_option linter.all false
set_option maxRecDepth 100000
set_option maxHeartbeats 1000000
namespace KK
open PySem PySem.Spec PyProof.Rows L2 DL
def bits01 : D := .tup [.str (Str.ofString "bits"), .str (Str.ofString "01")]
def rightGood (d : D) : Bool := tw 12 d && (smD d && ((refsL 12 d).isEmpty && decide ((pathsL 12 d).length ≤ 300)))
def wrongGood (d : D) : Bool := (List.range 13).all (fun j => !tw j d) && smD d
section
variable {k n : Nat} {Q : D → Prop} {s : FS} {fs : FA} {b : D} {a c : Nat} {A B : List D} {g : D → Bool}
theorem hs_first (hp : ∀ m, fLst fs [some (.mr k), some b, none] m = some (.lst B, m)) (hB : B.length = c) (gB : B.all g = true) (h : ∀ A, A.length = c → A.all g = true → HS k s [some (.mr k), some b, some (.lst A)] Q) :
    HS k (sSeq (sSet 2 (fLst fs)) s) [some (.mr k), some b, none] Q := hs_set (Qa := fun x => x = .lst B) (hf_pure hp rfl) fun x hx => by subst hx; exact h B hB gB
theorem hs_moreH (hA : A.length = a) (gA : A.all g = true) (hp : HF k (fLst fs) [some (.mr k), some b, some (.lst A)] fun x => ∃ B, x = .lst B ∧ B.length = c ∧ B.all g = true) (hac : a + c ≤ 1000) (h : ∀ A, A.length = a + c → A.all g = true → HS k s [some (.mr k), some b, some (.lst A)] Q) :
    HS k (sSeq (sSet 2 (fBin addG (fV 2) (fLst fs))) s) [some (.mr k), some b, some (.lst A)] Q := by
  refine hs_set (Qa := fun x => ∃ B, x = .lst B ∧ B.length = a + c ∧ B.all g = true) (hf_bin (Qa := fun x => x = .lst A) (hf_pure (fun m => rfl) rfl) fun x hx => hf_mono hp fun y ⟨B, hy, hB, gB⟩ m => ?_) fun x ⟨B, hx, hB, gB⟩ => by subst hx; exact h B hB gB
  subst hx; subst hy
  exact ⟨_, add_lst (by omega), A ++ B, rfl, by rw [List.length_append, hA, hB], by rw [List.all_append, gA, gB]; rfl⟩
theorem hs_more (hA : A.length = a) (gA : A.all g = true) (hp : ∀ A m, fLst fs [some (.mr k), some b, some (.lst A)] m = some (.lst B, m)) (hB : B.length = c) (gB : B.all g = true) (hac : a + c ≤ 1000) (h : ∀ A, A.length = a + c → A.all g = true → HS k s [some (.mr k), some b, some (.lst A)] Q) :
    HS k (sSeq (sSet 2 (fBin addG (fV 2) (fLst fs))) s) [some (.mr k), some b, some (.lst A)] Q := hs_moreH hA gA (hf_pure (hp A) ⟨B, rfl, hB, gB⟩) hac h
theorem hd_right (h : 3 ≤ n) : HD k (F n .law_right) [.mr k] fun d => rightGood d = true := fun m hm => by
  obtain ⟨j, rfl, hj⟩ := pred h
  have key : HS k (b_law_right (F j)) [some (.mr k), none, none] fun d => rightGood d = true := by
    refine hs_set (Qa := fun x => x = bits01) (hf_pure (fun m => rfl) rfl) fun x hx => ?_
    subst hx
    refine hs_first (g := rightGood) (c := 7) (B := R0 0) (fun m => rfl) rfl (by decide +kernel) fun A hA gA => ?_
    refine hs_more (g := rightGood) (a := 7) (c := 4) (B := R1 0) hA gA (fun A m => rfl) rfl (by decide +kernel) (by decide) fun A hA gA => ?_
    refine hs_more (g := rightGood) (a := 11) (c := 1) (B := R2 0) hA gA (fun A m => rfl) rfl (by decide +kernel) (by decide) fun A hA gA => ?_
    refine hs_more (g := rightGood) (a := 12) (c := 2) (B := R3 0) hA gA (fun A m => rfl) rfl (by decide +kernel) (by decide) fun A hA gA => ?_
    refine hs_more (g := rightGood) (a := 14) (c := 2) (B := R4 0) hA gA (fun A m => rfl) rfl (by decide +kernel) (by decide) fun A hA gA => ?_
    refine hs_moreH (g := rightGood) (a := 16) (c := 3) hA gA (hf_lstA ?_) (by decide) fun A hA gA => ?_
    · have hg := List.all_eq_true.mp (show (List.range 7).all (fun t => (R5 t).all rightGood) = true by decide +kernel)
      refine ha_cons (Qa := fun x => x = (R5 0)[0]) (hf_pure (fun m => rfl) rfl) fun a0 ha0 => ?_
      refine ha_cons (Qa := fun x => x = (R5 0)[1]) (hf_pure (fun m => rfl) rfl) fun a1 ha1 => ?_
      refine ha_cons (Qa := fun x => ∃ t < 7, x = deepT t 11) (hf_callA (P := fun l => ∃ t < 7, l = [.int ((11 + 1 : Nat) : Int), .int ((t : Nat) : Int)]) (ha_cons (Qa := fun x => x = .int ((11 + 1 : Nat) : Int)) (hf_pure (fun m => rfl) rfl) fun y hy => ha_cons (hf_take (a := 7) (by omega) (by omega) (fun m => rfl) (fun m => rfl)) fun z ⟨w, hz, w0, w1⟩ => ha_nil ⟨w.toNat, by omega, by rw [hy, hz, Int.toNat_of_nonneg w0]⟩) fun l ⟨t, ht, hl⟩ => by subst hl; exact hd_pure (fun m => ev_deep (by omega) 11 t (by omega)) ⟨t, ht, rfl⟩) fun a2 ⟨t, ht, ha2⟩ => ?_
      refine ha_nil ⟨Nat.le_of_ble_eq_true rfl, R5 t, ?_, rfl, hg t (List.mem_range.mpr ht)⟩
      rw [ha0, ha1, ha2]
      rfl
    refine hs_more (g := rightGood) (a := 19) (c := 1) (B := R6 0) hA gA (fun A m => rfl) rfl (by decide +kernel) (by decide) fun A hA gA => ?_
    exact hs_ret (hf_pick (l := A) (a := 20) (by omega) (fun m => rfl) (by rw [hA]; rfl) (by omega) (fun m => rfl) (fun m => rfl) (List.all_eq_true.mp gA))
  obtain ⟨d, m', e, s, q⟩ := key m hm
  exact ⟨d, m', Fr_law_right e s.len, s, q⟩
end
end KK
end
section
set_option Elab.async false
set_option linter.all false
set_option maxRecDepth 100000
set_option maxHeartbeats 1000000
namespace KK
open PySem PySem.Spec PyProof.Rows L2 DL
section
variable {k n : Nat}
theorem hd_wrong (h : 3 ≤ n) : HD k (F n .law_wrong) [.mr k] fun d => wrongGood d = true := fun m hm => by
  obtain ⟨j, rfl, hj⟩ := pred h
  have key : HS k (b_law_wrong (F j)) [some (.mr k), none, none] fun d => wrongGood d = true := by
    refine hs_set (Qa := fun x => x = bits01) (hf_pure (fun m => rfl) rfl) fun x hx => ?_
    subst hx
    refine hs_first (g := wrongGood) (c := 10) (B := W0 0) (fun m => rfl) rfl (by decide +kernel) fun A hA gA => ?_
    refine hs_more (g := wrongGood) (a := 10) (c := 6) (B := W1 0) hA gA (fun A m => rfl) rfl (by decide +kernel) (by decide) fun A hA gA => ?_
    refine hs_more (g := wrongGood) (a := 16) (c := 6) (B := W2 0) hA gA (fun A m => rfl) rfl (by decide +kernel) (by decide) fun A hA gA => ?_
    refine hs_more (g := wrongGood) (a := 22) (c := 3) (B := W3 0) hA gA (fun A m => rfl) rfl (by decide +kernel) (by decide) fun A hA gA => ?_
    refine hs_more (g := wrongGood) (a := 25) (c := 3) (B := W4 0) hA gA (fun A m => rfl) rfl (by decide +kernel) (by decide) fun A hA gA => ?_
    refine hs_more (g := wrongGood) (a := 28) (c := 3) (B := W5 0) hA gA (fun A m => rfl) rfl (by decide +kernel) (by decide) fun A hA gA => ?_
    refine hs_more (g := wrongGood) (a := 31) (c := 3) (B := W6 0) hA gA (fun A m => rfl) rfl (by decide +kernel) (by decide) fun A hA gA => ?_
    refine hs_more (g := wrongGood) (a := 34) (c := 3) (B := W7 0) hA gA (fun A m => rfl) rfl (by decide +kernel) (by decide) fun A hA gA => ?_
    refine hs_more (g := wrongGood) (a := 37) (c := 3) (B := W8 0) hA gA (fun A m => rfl) rfl (by decide +kernel) (by decide) fun A hA gA => ?_
    refine hs_more (g := wrongGood) (a := 40) (c := 2) (B := W9 0) hA gA (fun A m => rfl) rfl (by decide +kernel) (by decide) fun A hA gA => ?_
    refine hs_more (g := wrongGood) (a := 42) (c := 3) (B := W10 0) hA gA (fun A m => rfl) rfl (by decide +kernel) (by decide) fun A hA gA => ?_
    refine hs_more (g := wrongGood) (a := 45) (c := 5) (B := W11 0) hA gA (fun A m => rfl) rfl (by decide +kernel) (by decide) fun A hA gA => ?_
    refine hs_more (g := wrongGood) (a := 50) (c := 4) (B := W12 0) hA gA (fun A m => rfl) rfl (by decide +kernel) (by decide) fun A hA gA => ?_
    refine hs_more (g := wrongGood) (a := 54) (c := 4) (B := W13 0) hA gA (fun A m => rfl) rfl (by decide +kernel) (by decide) fun A hA gA => ?_
    refine hs_more (g := wrongGood) (a := 58) (c := 3) (B := W14 0) hA gA (fun A m => rfl) rfl (by decide +kernel) (by decide) fun A hA gA => ?_
    refine hs_more (g := wrongGood) (a := 61) (c := 2) (B := W15 0) hA gA (fun A m => rfl) rfl (by decide +kernel) (by decide) fun A hA gA => ?_
    refine hs_more (g := wrongGood) (a := 63) (c := 2) (B := W16 0) hA gA (fun A m => rfl) rfl (by decide +kernel) (by decide) fun A hA gA => ?_
    refine hs_more (g := wrongGood) (a := 65) (c := 3) (B := W17 0) hA gA (fun A m => rfl) rfl (by decide +kernel) (by decide) fun A hA gA => ?_
    refine hs_more (g := wrongGood) (a := 68) (c := 6) (B := W18 0) hA gA (fun A m => rfl) rfl (by decide +kernel) (by decide) fun A hA gA => ?_
    refine hs_moreH (g := wrongGood) (a := 74) (c := 4) hA gA (hf_lstA ?_) (by decide) fun A hA gA => ?_
    · have hg := List.all_eq_true.mp (show (List.range 7).all (fun t => (W19 t).all wrongGood) = true by decide +kernel)
      refine ha_cons (Qa := fun x => x = (W19 0)[0]) (hf_pure (fun m => rfl) rfl) fun a0 ha0 => ?_
      refine ha_cons (Qa := fun x => ∃ t < 7, x = deepT t 12) (hf_callA (P := fun l => ∃ t < 7, l = [.int ((12 + 1 : Nat) : Int), .int ((t : Nat) : Int)]) (ha_cons (Qa := fun x => x = .int ((12 + 1 : Nat) : Int)) (hf_pure (fun m => rfl) rfl) fun y hy => ha_cons (hf_take (a := 7) (by omega) (by omega) (fun m => rfl) (fun m => rfl)) fun z ⟨w, hz, w0, w1⟩ => ha_nil ⟨w.toNat, by omega, by rw [hy, hz, Int.toNat_of_nonneg w0]⟩) fun l ⟨t, ht, hl⟩ => by subst hl; exact hd_pure (fun m => ev_deep (by omega) 12 t (by omega)) ⟨t, ht, rfl⟩) fun a1 ⟨t, ht, ha1⟩ => ?_
      refine ha_cons (Qa := fun x => x = (W19 0)[2]) (hf_pure (fun m => rfl) rfl) fun a2 ha2 => ?_
      refine ha_cons (Qa := fun x => x = (W19 0)[3]) (hf_pure (fun m => rfl) rfl) fun a3 ha3 => ?_
      refine ha_nil ⟨Nat.le_of_ble_eq_true rfl, W19 t, ?_, rfl, hg t (List.mem_range.mpr ht)⟩
      rw [ha0, ha1, ha2, ha3]
      rfl
    refine hs_more (g := wrongGood) (a := 78) (c := 3) (B := W20 0) hA gA (fun A m => rfl) rfl (by decide +kernel) (by decide) fun A hA gA => ?_
    refine hs_more (g := wrongGood) (a := 81) (c := 3) (B := W21 0) hA gA (fun A m => rfl) rfl (by decide +kernel) (by decide) fun A hA gA => ?_
    refine hs_more (g := wrongGood) (a := 84) (c := 3) (B := W22 0) hA gA (fun A m => rfl) rfl (by decide +kernel) (by decide) fun A hA gA => ?_
    refine hs_more (g := wrongGood) (a := 87) (c := 3) (B := W23 0) hA gA (fun A m => rfl) rfl (by decide +kernel) (by decide) fun A hA gA => ?_
    refine hs_more (g := wrongGood) (a := 90) (c := 2) (B := W24 0) hA gA (fun A m => rfl) rfl (by decide +kernel) (by decide) fun A hA gA => ?_
    refine hs_more (g := wrongGood) (a := 92) (c := 1) (B := W25 0) hA gA (fun A m => rfl) rfl (by decide +kernel) (by decide) fun A hA gA => ?_
    exact hs_ret (hf_pick (l := A) (a := 93) (by omega) (fun m => rfl) (by rw [hA]; rfl) (by omega) (fun m => rfl) (fun m => by show some (D.int (A.length : Nat), m) = _; rw [hA]; rfl) (List.all_eq_true.mp gA))
  obtain ⟨d, m', e, s, q⟩ := key m hm
  exact ⟨d, m', Fr_law_wrong e s.len, s, q⟩
end
end KK
end
section
set_option Elab.async false
set_option linter.all false
set_option maxRecDepth 100000
set_option maxHeartbeats 1000000
namespace KK
open PySem PySem.Spec PyProof.Rows L2 DL
/-! ### a sheet with something wrong around -/
def NotSh (d : D) : Prop := ∀ n, 47 ≤ n → sheetOf n d false
theorem n_no {v : D} (h : tupB v 2 = false) : NotSh v := fun n hn m => ev_sheet_no hn h
theorem n_nt {x y : D} (h : isT y = false) : NotSh (.tup [x, y]) := fun n hn m => ev_sheet_nt hn h
theorem n_nil {x : D} : NotSh (.tup [x, .tup []]) := fun n hn m => ev_sheet_nil hn
theorem n_bad {x : D} {es : List D} (hne : es ≠ []) (hs : smD (.tup es) = true) (hb : es.all entryB = false) : NotSh (.tup [x, .tup es]) := fun n hn m => ev_sheet_bad hn hne hs hb
/-- entries that are ones -/
structure Ents (qs : List (Str × D)) : Prop where
  ne : qs ≠ []
  sm : smD (.tup (qs.map entD)) = true
  en : (qs.map entD).all entryB = true
  rc : ∀ p ∈ qs, (refsL 12 p.2).length ≤ 1000
  len : qs.length ≤ 100
theorem n_tail {x : D} {qs : List (Str × D)} (E : Ents qs) (hx : smD x = true) (ht : sheetTailB x qs = false) : NotSh (.tup [x, .tup (qs.map entD)]) := fun n hn m => by
  have := ev_sheet (m := m) (x := x) hn E.ne (sm_tupI (by simp) fun d hd => by
    simp at hd
    rcases hd with rfl | rfl
    · exact hx
    · exact E.sm) E.en E.rc E.len
  rw [ht] at this
  exact this
theorem n_root {x : D} {qs : List (Str × D)} (E : Ents qs) (hx : smD x = true) (h : inNames (qs.map Prod.fst) x = false) : NotSh (.tup [x, .tup (qs.map entD)]) := n_tail E hx (by unfold sheetTailB; rw [h]; simp)
theorem n_asc {x : D} {qs : List (Str × D)} (E : Ents qs) (hx : smD x = true) (h : ascB (qs.map Prod.fst) = false) : NotSh (.tup [x, .tup (qs.map entD)]) := n_tail E hx (by unfold sheetTailB; rw [h]; simp)
theorem n_ref {x : D} {qs : List (Str × D)} (E : Ents qs) (hx : smD x = true) {p : Str × D} (hp : p ∈ qs) {s : Str} (hs : s ∈ refsL 12 p.2) (h : s ∉ qs.map Prod.fst) : NotSh (.tup [x, .tup (qs.map entD)]) := n_tail E hx (by
  unfold sheetTailB
  have : (qs.all fun p => (refsL 12 p.2).all fun r => decide (r ∈ qs.map Prod.fst)) = false := by
    cases e : (qs.all fun p => (refsL 12 p.2).all fun r => decide (r ∈ qs.map Prod.fst)) with
    | false => rfl
    | true =>
      have h1 := List.all_eq_true.mp (List.all_eq_true.mp e p hp) s hs
      exact absurd (of_decide_eq_true h1) h
  rw [this]; simp)
def bitsE : D := .tup [.str (Str.ofString "bits"), .str (Str.ofString "")]
def ref8 : D := .tup [.str (Str.ofString "ref"), .str (Str.ofString "zz8")]
def rowE : D := .tup [.str (Str.ofString "row"), .tup [bitsE, ref8]]
section
variable {r : Str} {ps : List (Str × D)} {n k : Nat}
theorem Sheet.ents (S : Sheet r ps) : Ents ps := by
  have H := S.sh
  exact ⟨H.ne, H.smE, H.ents, H.rc, H.len⟩
theorem Ents.app (E : Ents ps) (h : ps.length ≤ 3) {nm : Str} {t : D} (h1 : nameB (.str nm) = true) (h2 : tw 12 t = true) (h3 : smD (.str nm) = true) (h4 : smD t = true) (h5 : (refsL 12 t).length ≤ 1000) : Ents (ps ++ [(nm, t)]) := by
  refine ⟨by simp, ?_, ?_, fun p hp => ?_, by simp; omega⟩
  · refine sm_tupI (by simp; omega) fun d hd => ?_
    rw [List.map_append, List.mem_append] at hd
    rcases hd with hd | hd
    · exact sm_mem E.sm hd
    · have : d = entD (nm, t) := by simpa using hd
      subst this
      refine sm_tupI (by simp) fun y hy => ?_
      simp at hy
      rcases hy with rfl | rfl
      · exact h3
      · exact h4
  · rw [List.map_append, List.all_append, E.en]
    show (true && ((nameB (.str nm) && tw 12 t) && true)) = true
    rw [h1, h2]; rfl
  · rcases List.mem_append.mp hp with hp | hp
    · exact E.rc p hp
    · have : p = (nm, t) := by simpa using hp
      subst this; exact h5
theorem add_bad (E : Ents ps) (h : ps.length ≤ 3) {x y : D} (hb : entryB x = false) (hs : smD x = true) : NotSh (.tup [y, .tup (ps.map entD ++ [x])]) :=
  n_bad (by simp) (sm_tupI (by simp; omega) fun d hd => by
    rcases List.mem_append.mp hd with hd | hd
    · exact sm_mem E.sm hd
    · have : d = x := by simpa using hd
      subst this; exact hs) (by rw [List.all_append]; show (_ && (entryB x && true)) = false; rw [hb]; simp)
theorem Sheet.len (S : Sheet r ps) : ps.length ≤ 3 := by have := S.nms.len; simpa using this
theorem Sheet.rsm (S : Sheet r ps) : smD (.str r) = true := name_sm S.nms S.root
theorem high_no {ss : List Str} (N : Names ss) {s : Str} {c : Nat} {l : List Nat} (e : s.cps.toList = c :: l) (hc : 120 < c ∨ c < 97) : s ∉ ss := fun h => by
  obtain ⟨c', r', e2, h1, h2⟩ := N.hd s h
  rw [e] at e2
  cases e2
  omega
theorem low_a {ss : List Str} (N : Names ss) {s : Str} (h : s ∈ ss) : ¬ s.cps.toList < (Str.ofString "a").cps.toList := fun hlt => by
  obtain ⟨c', r', e2, h1, h2⟩ := N.hd s h
  rw [e2] at hlt
  rcases List.cons_lt_cons_iff.mp (show c' :: r' < [97] from hlt) with h | ⟨_, h⟩
  · omega
  · exact absurd h (List.not_lt_nil _)
theorem asc_app {qs : List (Str × D)} {pl : Str × D} {init : List (Str × D)} (hq : qs = init ++ [pl]) {nm : Str} {t : D} (h : ¬ pl.1.cps.toList < nm.cps.toList) : ascB ((qs ++ [(nm, t)]).map Prod.fst) = false := by
  subst hq
  have : ((init ++ [pl] ++ [(nm, t)]).map Prod.fst) = init.map Prod.fst ++ [pl.1, nm] := by simp
  rw [this]
  exact asc_no h
theorem nsl : smD (.str (Str.ofString "zz9")) = true := by decide +kernel
theorem zz9_no (S : Sheet r ps) : inNames (ps.map Prod.fst) (.str (Str.ofString "zz9")) = false := decide_eq_false (high_no S.nms (c := 122) (l := [122, 57]) (by decide +kernel) (.inl (by decide)))
theorem zz8_no (S : Sheet r ps) (t : D) : (Str.ofString "zz8") ∉ (ps ++ [(Str.ofString "zz9", t)]).map Prod.fst := fun h => by
  rw [List.map_append] at h
  rcases List.mem_append.mp h with h | h
  · exact high_no S.nms (c := 122) (l := [122, 56]) (by decide +kernel) (.inl (by decide)) h
  · have : Str.ofString "zz8" = Str.ofString "zz9" := by simpa using h
    exact absurd this (by decide +kernel)
def aroundL (r : Str) (es init : List D) (p0 : Str) (e0 el : D) : List D :=
  [.tup [.str r, .tup es, .int 1], .lst [.str r, .tup es], .tup [.str r, .lst es], .tup [.str r, .tup []], .tup [.str (Str.ofString "zz9"), .tup es], .tup [.non, .tup es]] ++
  [.tup [.str r, .tup (es ++ [el])], .tup [.str r, .tup (es ++ [.tup [.str (Str.ofString "a"), bitsE]])], .tup [.str r, e0]] ++
  [.tup [.str r, .tup (init ++ [.tup [.str (Str.ofString "Z"), bitsE], el])], .tup [.str r, .tup (es ++ [.tup [.str (Str.ofString "zz9")]])], .non] ++
  [.tup [.str r, .tup (es ++ [.tup [.str (Str.ofString "zz9"), ref8]])], .tup [.str r, .tup (es ++ [.lst [.str (Str.ofString "zz9"), bitsE]])], .tup []] ++
  [.tup [.str (p0 ++ Str.ofString "x"), .tup es], .tup [.str r, .tup (es ++ [.tup [.str (Str.ofString "zz9"), rowE]])]] ++
  [.tup [.str r, .tup (es ++ [.tup [.non, bitsE]])], .tup [.str r, .tup (es ++ [.tup [.str (repS (Str.ofString "z") 13), bitsE]])], .str (Str.ofString "root")] ++
  [.tup [.tup [.str r], .tup es], .tup [.str r, .tup (es ++ [.int 5])], .tup [.bl true, .tup es]] ++
  [.tup [.str (Str.ofString "a"), .tup [.tup [.str (Str.ofString "a"), bitsE], .tup [.str (Str.ofString "c"), bitsE], .tup [.str (Str.ofString "b"), bitsE], .tup [.str (Str.ofString "d"), bitsE]]], .tup [.str (Str.ofString "a"), .tup [.tup [.str (Str.ofString "a"), bitsE], .tup [.str (Str.ofString "b"), bitsE], .tup [.str (Str.ofString "b"), bitsE]]]]
theorem around_all (S : Sheet r ps) {p0 pl : Str × D} {init : List (Str × D)} (h0 : p0 ∈ ps) (hl : ps = init ++ [pl]) : ∀ d ∈ aroundL r (ps.map entD) (init.map entD) p0.1 (entD p0) (entD pl), NotSh d := by
  have E := S.ents
  have hlen := S.len
  have hr := S.rsm
  have hpl : pl ∈ ps := by rw [hl]; simp
  have smN : ∀ p ∈ ps, smD (.str p.1) = true := fun p hp => name_sm S.nms (List.mem_map.mpr ⟨p, hp, rfl⟩)
  have bE : smD bitsE = true := by decide +kernel
  have clA : Ents [(Str.ofString "a", bitsE), (Str.ofString "c", bitsE), (Str.ofString "b", bitsE), (Str.ofString "d", bitsE)] := ⟨by simp, by decide +kernel, by decide +kernel, by decide +kernel, by decide⟩
  have clB : Ents [(Str.ofString "a", bitsE), (Str.ofString "b", bitsE), (Str.ofString "b", bitsE)] := ⟨by simp, by decide +kernel, by decide +kernel, by decide +kernel, by decide⟩
  have xno : inNames (ps.map Prod.fst) (.str (p0.1 ++ Str.ofString "x")) = false := decide_eq_false fun h => by
    obtain ⟨w, _, hw⟩ := S.nms.lw
    have h1 := hw _ h
    have h2 := hw p0.1 (List.mem_map.mpr ⟨p0, h0, rfl⟩)
    rw [app_len, h2] at h1
    have : (Str.ofString "x").length = 1 := by decide +kernel
    omega
  have xsm : smD (.str (p0.1 ++ Str.ofString "x")) = true := by
    obtain ⟨w, hw5, hw⟩ := S.nms.lw
    refine decide_eq_true ?_
    rw [app_len, hw p0.1 (List.mem_map.mpr ⟨p0, h0, rfl⟩)]
    have : (Str.ofString "x").length = 1 := by decide +kernel
    omega
  intro d hd
  unfold aroundL at hd
  simp only [List.mem_append, List.mem_cons, List.not_mem_nil, or_false] at hd
  rcases hd with ((((((( rfl | rfl | rfl | rfl | rfl | rfl) | rfl | rfl | rfl) | rfl | rfl | rfl) | rfl | rfl | rfl) | rfl | rfl) | rfl | rfl | rfl) | rfl | rfl | rfl) | rfl | rfl
  · exact n_no rfl
  · exact n_no rfl
  · exact n_nt rfl
  · exact n_nil
  · exact n_root E nsl (zz9_no S)
  · exact n_root E rfl rfl
  · have := n_asc (x := .str r) (E.app hlen (nm := pl.1) (t := pl.2) (S.nms.nm _ (List.mem_map.mpr ⟨pl, hpl, rfl⟩)) (S.sh.tm pl hpl) (smN pl hpl) (S.sh.smT hpl) (S.sh.rc pl hpl)) hr (asc_app hl (fun h => List.lt_irrefl _ h))
    rw [List.map_append] at this
    exact this
  · have := n_asc (x := .str r) (E.app hlen (nm := Str.ofString "a") (t := bitsE) (by decide +kernel) (by decide +kernel) (by decide +kernel) bE (by decide +kernel)) hr (asc_app hl (low_a S.nms (List.mem_map.mpr ⟨pl, hpl, rfl⟩)))
    rw [List.map_append] at this
    exact this
  · exact n_bad (by simp) (sm_tupI (by simp) fun d hd => by
      simp at hd
      rcases hd with rfl | rfl
      · exact smN p0 h0
      · exact S.sh.smT h0) rfl
  · refine n_bad (by simp) (sm_tupI (by rw [hl] at hlen; simp at hlen ⊢; omega) fun d hd => ?_) ?_
    · rcases List.mem_append.mp hd with hd | hd
      · exact sm_mem E.sm (by rw [hl, List.map_append]; exact List.mem_append_left _ hd)
      · simp at hd
        rcases hd with rfl | rfl
        · decide +kernel
        · exact sm_mem E.sm (List.mem_map.mpr ⟨pl, hpl, rfl⟩)
    · rw [List.all_append]
      have : entryB (.tup [.str (Str.ofString "Z"), bitsE]) = false := by decide +kernel
      show (_ && (entryB (.tup [.str (Str.ofString "Z"), bitsE]) && _)) = false
      rw [this]; simp
  · exact add_bad E hlen rfl (by decide +kernel)
  · exact n_no rfl
  · have := n_ref (x := .str r) (E.app hlen (nm := Str.ofString "zz9") (t := ref8) (by decide +kernel) (by decide +kernel) (by decide +kernel) (by decide +kernel) (by decide +kernel)) hr (p := (Str.ofString "zz9", ref8)) (by simp) (s := Str.ofString "zz8") (by decide +kernel) (zz8_no S _)
    rw [List.map_append] at this
    exact this
  · exact add_bad E hlen rfl (by decide +kernel)
  · exact n_no rfl
  · exact n_root E xsm xno
  · have := n_ref (x := .str r) (E.app hlen (nm := Str.ofString "zz9") (t := rowE) (by decide +kernel) (by decide +kernel) (by decide +kernel) (by decide +kernel) (by decide +kernel)) hr (p := (Str.ofString "zz9", rowE)) (by simp) (s := Str.ofString "zz8") (by decide +kernel) (zz8_no S _)
    rw [List.map_append] at this
    exact this
  · exact add_bad E hlen rfl (by decide +kernel)
  · exact add_bad E hlen (by decide +kernel) (by decide +kernel)
  · exact n_no rfl
  · exact n_root E (sm_tupI (by simp) fun d hd => by have : d = .str r := by simpa using hd
                                                     subst this; exact hr) rfl
  · exact add_bad E hlen rfl (by decide +kernel)
  · exact n_root E rfl rfl
  · exact n_asc (qs := [(Str.ofString "a", bitsE), (Str.ofString "c", bitsE), (Str.ofString "b", bitsE), (Str.ofString "d", bitsE)]) clA (by decide +kernel) (by decide +kernel)
  · exact n_asc (qs := [(Str.ofString "a", bitsE), (Str.ofString "b", bitsE), (Str.ofString "b", bitsE)]) clB (by decide +kernel) (by decide +kernel)
end
end KK
end
section
set_option Elab.async false
set_option linter.all false
set_option maxRecDepth 100000
set_option maxHeartbeats 4000000
namespace KK
open PySem PySem.Spec PyProof.Rows L2 DL
section
variable {r : Str} {ps : List (Str × D)} {n k : Nat} {Q : D → Prop} {s : FS} {fs : FA} {a c : Nat} {A B : List D} {x0 x1 x2 x3 x4 z : Option D}
theorem hsa_first (hp : ∀ m, fLst fs [x0, x1, x2, x3, x4, none, z] m = some (.lst B, m)) (hB : B.length = c) (h : ∀ A, A = B → A.length = c → HS k s [x0, x1, x2, x3, x4, some (.lst A), z] Q) :
    HS k (sSeq (sSet 5 (fLst fs)) s) [x0, x1, x2, x3, x4, none, z] Q := hs_set (Qa := fun x => x = .lst B) (hf_pure hp rfl) fun x hx => by subst hx; exact h B rfl hB
theorem hsa_more (hA : A.length = a) (hp : ∀ A m, fLst fs [x0, x1, x2, x3, x4, some (.lst A), z] m = some (.lst B, m)) (hB : B.length = c) (hac : a + c ≤ 1000) (h : ∀ A', A' = A ++ B → A'.length = a + c → HS k s [x0, x1, x2, x3, x4, some (.lst A'), z] Q) :
    HS k (sSeq (sSet 5 (fBin addG (fV 5) (fLst fs))) s) [x0, x1, x2, x3, x4, some (.lst A), z] Q := by
  refine hs_set (Qa := fun x => x = .lst (A ++ B)) (hf_pure (fun m => x_bin (a := .lst A) rfl (hp A m) (add_lst (by omega))) rfl) fun x hx => ?_
  subst hx
  exact h _ rfl (by rw [List.length_append, hA, hB])
theorem x_fc {f : DL.F} {fs : FA} {ε : Ev} {d : D} {l : List D} {m m1 m2 : M} (h1 : f ε m = some (d, m1)) (h2 : fs ε m1 = some (l, m2)) : faCons f fs ε m = some (d :: l, m2) := by
  unfold faCons; rw [h1]; simp only [Option.bind_some]; rw [h2]; rfl
theorem x_lst {fs : FA} {ε : Ev} {l : List D} {m m1 : M} (h : fs ε m = some (l, m1)) (hl : l.length ≤ 1000) : fLst fs ε m = some (.lst l, m1) := by
  unfold fLst; rw [h]; simp only [Option.bind_some]; rw [if_pos (sz1000 hl)]
theorem around_core (es init : List D) (e0 el : D) (p0 : Str) (hx : ∀ m, addG (.str p0) (.str (Str.ofString "x")) m = some (.str (p0 ++ Str.ofString "x"))) (h : 2 ≤ n) (hQ : ∀ d ∈ aroundL r es init p0 e0 el, Q d) (hf : fst0 e0 = .str p0 ∧ ∀ m, ixG e0 (.int 0) m = some (.str p0))
    (hes : (es = [e0] ∧ init = [] ∧ el = e0) ∨ (es = [e0, el] ∧ init = [e0]) ∨ ∃ e1, es = [e0, e1, el] ∧ init = [e0, e1]) : HS k (b_law_around (F n)) [some (.mr k), some (.tup [.str r, .tup es]), none, none, none, none, none] Q := by
  have fin : HS k (b_law_around (F n)) [some (.mr k), some (.tup [.str r, .tup es]), none, none, none, none, none] fun d => d ∈ aroundL r es init p0 e0 el := by
    have ix0 : ∀ m, ixG (.tup es) (.int 0) m = some e0 := fun m => by rcases hes with ⟨rfl, _, _⟩ | ⟨rfl, _⟩ | ⟨e1, rfl, _⟩ <;> rfl
    refine hs_set (Qa := fun x => x = .str r) (hf_pure (fun m => rfl) rfl) fun x hx1 => ?_
    subst hx1
    refine hs_set (Qa := fun x => x = .tup es) (hf_pure (fun m => rfl) rfl) fun x hx1 => ?_
    subst hx1
    refine hs_set (Qa := fun x => x = e0) (hf_pure (fun m => x_bin (a := .tup es) rfl rfl (ix0 m)) rfl) fun x hx1 => ?_
    subst hx1
    show HS k _ [some (.mr k), some (.tup [.str r, .tup es]), some (.str r), some (.tup es), some x, none, none] _
    refine hsa_first (c := 6) (B := [.tup [.str r, .tup es, .int 1], .lst [.str r, .tup es], .tup [.str r, .lst es], .tup [.str r, .tup []], .tup [.str (Str.ofString "zz9"), .tup es], .tup [.non, .tup es]]) (fun m => rfl) rfl fun A hA lA => ?_
    refine hsa_more (a := 6) (c := 3) (B := [.tup [.str r, .tup (es ++ [el])], .tup [.str r, .tup (es ++ [.tup [.str (Str.ofString "a"), bitsE]])], .tup [.str r, x]]) lA (fun A m => by rcases hes with ⟨rfl, _, rfl⟩ | ⟨rfl, _⟩ | ⟨e1, rfl, _⟩ <;> rfl) rfl (by decide) fun A2 hA2 lA => ?_
    refine hsa_more (a := 9) (c := 3) (B := [.tup [.str r, .tup (init ++ [.tup [.str (Str.ofString "Z"), bitsE], el])], .tup [.str r, .tup (es ++ [.tup [.str (Str.ofString "zz9")]])], .non]) lA (fun A m => by rcases hes with ⟨rfl, rfl, rfl⟩ | ⟨rfl, rfl⟩ | ⟨e1, rfl, rfl⟩ <;> rfl) rfl (by decide) fun A3 hA3 lA => ?_
    refine hsa_more (a := 12) (c := 3) (B := [.tup [.str r, .tup (es ++ [.tup [.str (Str.ofString "zz9"), ref8]])], .tup [.str r, .tup (es ++ [.lst [.str (Str.ofString "zz9"), bitsE]])], .tup []]) lA (fun A m => by rcases hes with ⟨rfl, _, rfl⟩ | ⟨rfl, _⟩ | ⟨e1, rfl, _⟩ <;> rfl) rfl (by decide) fun A4 hA4 lA => ?_
    refine hsa_more (a := 15) (c := 2) (B := [.tup [.str (p0 ++ Str.ofString "x"), .tup es], .tup [.str r, .tup (es ++ [.tup [.str (Str.ofString "zz9"), rowE]])]]) lA (fun A m => x_lst (x_fc (x_tup2 (x_bin (x_bin (a := x) rfl rfl (hf.2 m)) rfl (hx m)) rfl) (by rcases hes with ⟨rfl, _, rfl⟩ | ⟨rfl, _⟩ | ⟨e1, rfl, _⟩ <;> rfl)) (Nat.le_of_ble_eq_true rfl)) rfl (by decide) fun A5 hA5 lA => ?_
    refine hsa_more (a := 17) (c := 3) (B := [.tup [.str r, .tup (es ++ [.tup [.non, bitsE]])], .tup [.str r, .tup (es ++ [.tup [.str (repS (Str.ofString "z") 13), bitsE]])], .str (Str.ofString "root")]) lA (fun A m => by rcases hes with ⟨rfl, _, rfl⟩ | ⟨rfl, _⟩ | ⟨e1, rfl, _⟩ <;> rfl) rfl (by decide) fun A6 hA6 lA => ?_
    refine hsa_more (a := 20) (c := 3) (B := [.tup [.tup [.str r], .tup es], .tup [.str r, .tup (es ++ [.int 5])], .tup [.bl true, .tup es]]) lA (fun A m => by rcases hes with ⟨rfl, _, rfl⟩ | ⟨rfl, _⟩ | ⟨e1, rfl, _⟩ <;> rfl) rfl (by decide) fun A7 hA7 lA => ?_
    refine hs_set (Qa := fun x => x = bitsE) (hf_pure (fun m => rfl) rfl) fun y hy => ?_
    subst hy
    show HS k _ [some (.mr k), some (.tup [.str r, .tup es]), some (.str r), some (.tup es), some x, some (.lst A7), some bitsE] _
    refine hsa_more (a := 23) (c := 2) (B := [.tup [.str (Str.ofString "a"), .tup [.tup [.str (Str.ofString "a"), bitsE], .tup [.str (Str.ofString "c"), bitsE], .tup [.str (Str.ofString "b"), bitsE], .tup [.str (Str.ofString "d"), bitsE]]], .tup [.str (Str.ofString "a"), .tup [.tup [.str (Str.ofString "a"), bitsE], .tup [.str (Str.ofString "b"), bitsE], .tup [.str (Str.ofString "b"), bitsE]]]]) lA (fun A m => rfl) rfl (by decide) fun A8 hA8 lA => ?_
    refine hs_ret (hf_pick (l := A8) (a := 25) (by omega) (fun m => rfl) (by rw [lA]; rfl) (by omega) (fun m => rfl) (fun m => rfl) fun d hd => ?_)
    rw [hA8, hA7, hA6, hA5, hA4, hA3, hA2, hA] at hd
    exact hd
  exact fun m hm => let ⟨d, m', e, s, q⟩ := fin m hm; ⟨d, m', e, s, hQ d q⟩
theorem hd_around (S : Sheet r ps) (h : 3 ≤ n) : HD k (F n .law_around) [.mr k, shD r ps] NotSh := fun m hm => by
  obtain ⟨j, rfl, hj⟩ := pred h
  have N := S.nms
  have hl := S.len
  have hx : ∀ p ∈ ps, ∀ m, addG (.str p.1) (.str (Str.ofString "x")) m = some (.str (p.1 ++ Str.ofString "x")) := fun p hp m => by
    obtain ⟨w, hw5, hw⟩ := N.lw
    show (if p.1.length + (Str.ofString "x").length ≤ sizeLine then _ else none) = _
    rw [if_pos (sz1000 (by rw [hw p.1 (List.mem_map.mpr ⟨p, hp, rfl⟩)]; have : (Str.ofString "x").length = 1 := by decide +kernel
                           omega))]
  have key : HS k (b_law_around (F j)) [some (.mr k), some (.tup [.str r, .tup (ps.map entD)]), none, none, none, none, none] NotSh := by
    match ps, S, hl with
    | [], S, _ => exact absurd rfl S.sh.ne
    | [p0], S, _ => exact around_core _ [] (entD p0) (entD p0) p0.1 (hx p0 (by simp)) (by omega) (around_all (p0 := p0) (pl := p0) (init := []) S (by simp) rfl) ⟨rfl, fun m => rfl⟩ (.inl ⟨rfl, rfl, rfl⟩)
    | [p0, p1], S, _ => exact around_core _ [entD p0] (entD p0) (entD p1) p0.1 (hx p0 (by simp)) (by omega) (around_all (p0 := p0) (pl := p1) (init := [p0]) S (by simp) rfl) ⟨rfl, fun m => rfl⟩ (.inr (.inl ⟨rfl, rfl⟩))
    | [p0, p1, p2], S, _ => exact around_core _ [entD p0, entD p1] (entD p0) (entD p2) p0.1 (hx p0 (by simp)) (by omega) (around_all (p0 := p0) (pl := p2) (init := [p0, p1]) S (by simp) rfl) ⟨rfl, fun m => rfl⟩ (.inr (.inr ⟨_, rfl, rfl⟩))
    | _ :: _ :: _ :: _ :: _, _, h => exact absurd h (by simp)
  obtain ⟨d, m', e, s, q⟩ := key m hm
  exact ⟨d, m', Fr_law_around e s.len, s, q⟩
end
end KK
end
section
set_option Elab.async false
set_option linter.all false
set_option maxRecDepth 100000
set_option maxHeartbeats 4000000
namespace KK
open PySem PySem.Spec PyProof.Rows L2 DL
theorem findE_of : ∀ {qs : List (Str × D)} {nm : Str} {t : D}, (qs.map Prod.fst).Nodup → (nm, t) ∈ qs → findE qs nm = some t
  | x :: r, nm, t, nd, h => by
    rw [List.map_cons, List.nodup_cons] at nd
    rcases List.mem_cons.mp h with rfl | h
    · simp [findE]
    · have hx : ¬ x.1 = nm := fun e => nd.1 (by rw [e]; exact List.mem_map.mpr ⟨_, h, rfl⟩)
      have := findE_of nd.2 h
      simpa [findE, hx] using this
theorem findE_none {qs : List (Str × D)} {nm : Str} (h : nm ∉ qs.map Prod.fst) : findE qs nm = none := by
  cases e : findE qs nm with
  | none => rfl
  | some t => exact absurd (List.mem_map.mpr ⟨_, findE_mem e, rfl⟩) h
structure Spot (ps : List (Str × D)) (s : Str × List Int) (t u : D) : Prop where
  mem : (s.1, t) ∈ ps
  fe : findE ps s.1 = some t
  at_ : atD t s.2 = some u
  nn : ∀ i ∈ s.2, 0 ≤ i
  len : s.2.length ≤ 2
  parts : (partsD u).length ≤ 3
section
variable {r : Str} {ps : List (Str × D)} {n k : Nat} {Q : D → Prop} {s : FS} {fs : FA} {a c : Nat} {A B : List D} {x0 x1 x2 x3 x4 z z6 z7 : Option D}
theorem spot_of (S : Sheet r ps) {s : Str × List Int} (h : s ∈ spotsL ps) : ∃ t u, Spot ps s t u := by
  unfold spotsL at h
  obtain ⟨p, hp, h⟩ := List.mem_flatMap.mp h
  obtain ⟨q, hq, rfl⟩ := List.mem_map.mp h
  obtain ⟨⟨u, hu⟩, hn⟩ := at_paths hq
  have L := S.tms p hp
  exact ⟨p.2, u, hp, findE_of S.nms.nd hp, hu, hn, few_path L.few hu, few_at L.few hu⟩
theorem last_spot (S : Sheet r ps) : ∃ s t u, (spotsL ps).getLast? = some s ∧ Spot ps s t u ∧ partsD u = [] := by
  have hne := S.sh.ne
  obtain ⟨init, pl, e⟩ : ∃ i p, ps = i ++ [p] := ⟨_, _, (List.dropLast_concat_getLast hne).symm⟩
  have hp : pl ∈ ps := by rw [e]; simp
  have L := S.tms pl hp
  obtain ⟨q, u, h1, h2, h3⟩ := last_leaf (tm_of (L.tw 12 (by omega)))
  have hq : q ∈ pathsL 12 pl.2 := List.mem_of_getLast? h1
  obtain ⟨_, hn⟩ := at_paths hq
  refine ⟨(pl.1, q), pl.2, u, ?_, ⟨hp, findE_of S.nms.nd hp, h2, hn, few_path L.few h2, few_at L.few h2⟩, h3⟩
  unfold spotsL
  rw [e, List.flatMap_append, List.getLast?_append]
  simp [h1]
theorem spots_ne (S : Sheet r ps) : spotsL ps ≠ [] := fun e => by
  obtain ⟨s, _, _, h, _⟩ := last_spot S
  rw [e] at h; cases h
theorem atI_last {α : Type} {l : List α} {x : α} (h : l.getLast? = some x) : atI l (-1) = some x := by
  have hne : l ≠ [] := fun e => by rw [e] at h; cases h
  have hl : 0 < l.length := List.length_pos_iff.mpr hne
  unfold atI ixN
  rw [if_neg (by omega), if_pos (by omega)]
  have : ((-1 : Int) + (l.length : Int)).toNat = l.length - 1 := by omega
  show l[((-1 : Int) + (l.length : Int)).toNat]? = _
  rw [this, ← List.getLast?_eq_getElem?]
  exact h
def truD (a : Str) (q : List Int) : D := .tup [.str a, .tup (if q = [] then [.bl false] else q.map fun i => .bl (decide (i = 1)))]
def bentL (a : Str) (q : List Int) (b : Str) (p : List Int) : List D :=
  [.non, .int 5, .str a, pD q, .tup [.str a], .lst [.str a, pD q], .tup [.str a, .lst (q.map .int)], .tup [.str a, .non]] ++
  [.tup [.str (Str.ofString "zz"), pD q], .tup [.str a, .tup (q.map .int ++ [.int 9])], .tup [.str a, .tup (q.map .int ++ [.int (-1)])], .tup [pD q, .str a]] ++
  [.tup [.str a, pD q, .int 0], .tup [.str a, .tup (q.map .int ++ [.non])], .tup [.non, pD q], .tup [.str a, .tup (q.map .int ++ [.str (Str.ofString "0")])]] ++
  [.tup [.str b, .tup (p.map .int ++ [.int 0])], .tup [.str a, .tup (q.map .int ++ [.bl true] ++ List.replicate 12 (.bl false))], .tup [.str (Str.ofString ""), .tup []], .tup [.str a, .int 0]] ++
  [truD a q, truD a q, truD a q, truD a q]
def short (q : List Int) : Prop := q = [] ∨ (∃ x, q = [x]) ∨ ∃ x y, q = [x, y]
theorem short_of {q : List Int} (h : q.length ≤ 2) : short q := by
  match q, h with
  | [], _ => exact .inl rfl
  | [x], _ => exact .inr (.inl ⟨x, rfl⟩)
  | [x, y], _ => exact .inr (.inr ⟨x, y, rfl⟩)
  | _ :: _ :: _ :: _, h => exact absurd h (by simp)
theorem bent_sm {a b : Str} {q p : List Int} (ha : a.length ≤ 1000) (hb : b.length ≤ 1000) (hq : short q) (hp : short p) : ∀ d ∈ bentL a q b p, smD d = true := by
  have h1 : (Str.ofString "zz").length ≤ 1000 := by decide +kernel
  have h2 : (Str.ofString "0").length ≤ 1000 := by decide +kernel
  have h3 : (Str.ofString "").length ≤ 1000 := by decide +kernel
  rcases hq with rfl | ⟨x, rfl⟩ | ⟨x, y, rfl⟩ <;> rcases hp with rfl | ⟨x', rfl⟩ | ⟨x', y', rfl⟩ <;> simp [bentL, truD, pD, smD, smsD, ha, hb, h1, h2, h3, List.replicate]
theorem pb_eq (a : Str) (l : List D) : placeB ps (.tup [.str a, .tup l]) = (l.all stepB && (match findE ps a with | some t => (atD t (intsOf l)).isSome | none => false)) := rfl
theorem pb_step {a : Str} {l : List D} (h : l.all stepB = false) : placeB ps (.tup [.str a, .tup l]) = false := by rw [pb_eq, h]; rfl
theorem pb_name {a : Str} {l : List D} (h : a ∉ ps.map Prod.fst) : placeB ps (.tup [.str a, .tup l]) = false := by rw [pb_eq, findE_none h]; simp
theorem pb_at {s : Str × List Int} {t u : D} (P : Spot ps s t u) {i : Int} (h : (partsD u)[i.toNat]? = none) : placeB ps (.tup [.str s.1, .tup (s.2.map .int ++ [.int i])]) = false := by
  rw [pb_eq, P.fe]
  have e : intsOf (s.2.map D.int ++ [.int i]) = s.2 ++ [i] := by simp [intsOf, Function.comp_def]
  show (_ && (atD t (intsOf (s.2.map D.int ++ [.int i]))).isSome) = false
  rw [e, at_app_q [i] P.at_]
  have : atD u [i] = none := by
    show (if 0 ≤ i then (partsD u)[i.toNat]?.bind fun p => atD p [] else none) = none
    split
    · rw [h]; rfl
    · rfl
  rw [this]; simp
theorem pb_pd (q : List Int) : placeB ps (pD q) = false := by
  match q with
  | [] => rfl
  | [_] => rfl
  | [_, _] => rfl
  | _ :: _ :: _ :: _ => rfl
theorem bent_no (S : Sheet r ps) {s l : Str × List Int} {t u t2 u2 : D} (P : Spot ps s t u) (L : Spot ps l t2 u2) (hl : partsD u2 = []) : ∀ d ∈ bentL s.1 s.2 l.1 l.2, placeB ps d = false := by
  have hz : (Str.ofString "zz") ∉ ps.map Prod.fst := high_no S.nms (c := 122) (l := [122]) (by decide +kernel) (.inl (by decide))
  have he : (Str.ofString "") ∉ ps.map Prod.fst := fun h => by
    obtain ⟨c, l, e, _⟩ := S.nms.hd _ h
    have : (Str.ofString "").cps.toList = [] := by decide +kernel
    rw [this] at e; cases e
  have tr : placeB ps (truD s.1 s.2) = false := by
    refine pb_step ?_
    by_cases h : s.2 = []
    · rw [if_pos h]; rfl
    · rw [if_neg h]
      match hq : s.2, h with
      | x :: q, _ => rfl
  intro d hd
  unfold bentL at hd
  simp only [List.mem_append, List.mem_cons, List.not_mem_nil, or_false] at hd
  rcases hd with (((( rfl | rfl | rfl | rfl | rfl | rfl | rfl | rfl) | rfl | rfl | rfl | rfl) | rfl | rfl | rfl | rfl) | rfl | rfl | rfl | rfl) | rfl | rfl | rfl | rfl
  · rfl
  · rfl
  · rfl
  · exact pb_pd _
  · rfl
  · rfl
  · rfl
  · rfl
  · exact pb_name hz
  · exact pb_at P (List.getElem?_eq_none (by have := P.parts; show _ ≤ 9; omega))
  · exact pb_step (by simp [stepB])
  · rfl
  · rfl
  · exact pb_step (by simp [stepB])
  · rfl
  · exact pb_step (by simp [stepB])
  · exact pb_at L (by rw [hl]; rfl)
  · exact pb_step (by simp [stepB])
  · exact pb_name he
  · rfl
  · exact tr
  · exact tr
  · exact tr
  · exact tr
theorem hsb_first (hp : ∀ m, fLst fs [x0, x1, x2, x3, x4, none, z6, z7] m = some (.lst B, m)) (hB : B.length = c) (h : ∀ A, A = B → A.length = c → HS k s [x0, x1, x2, x3, x4, some (.lst A), z6, z7] Q) :
    HS k (sSeq (sSet 5 (fLst fs)) s) [x0, x1, x2, x3, x4, none, z6, z7] Q := hs_set (Qa := fun x => x = .lst B) (hf_pure hp rfl) fun x hx => by subst hx; exact h B rfl hB
theorem hsb_more (hA : A.length = a) (hp : ∀ A m, fLst fs [x0, x1, x2, x3, x4, some (.lst A), z6, z7] m = some (.lst B, m)) (hB : B.length = c) (hac : a + c ≤ 1000) (h : ∀ A', A' = A ++ B → A'.length = a + c → HS k s [x0, x1, x2, x3, x4, some (.lst A'), z6, z7] Q) :
    HS k (sSeq (sSet 5 (fBin addG (fV 5) (fLst fs))) s) [x0, x1, x2, x3, x4, some (.lst A), z6, z7] Q := by
  refine hs_set (Qa := fun x => x = .lst (A ++ B)) (hf_pure (fun m => x_bin (a := .lst A) rfl (hp A m) (add_lst (by omega))) rfl) fun x hx => ?_
  subst hx
  exact h _ rfl (by rw [List.length_append, hA, hB])
theorem hd_bent (S : Sheet r ps) (h : 3 ≤ n) : HD k (F n .law_bent) [.mr k, shD r ps, .lst ((spotsL ps).map spotD)] fun d => smD d = true ∧ placeB ps d = false := fun m hm => by
  obtain ⟨j, rfl, hj⟩ := pred h
  obtain ⟨l, t2, u2, hlast, LS, hleaf⟩ := last_spot S
  have hne := spots_ne S
  have hlen : ∀ z3 z4 z5 z6 z7 m, fApp lenG (f1 (fV 2)) [some (.mr k), some (shD r ps), some (.lst ((spotsL ps).map spotD)), z3, z4, z5, z6, z7] m = some (.int ((spotsL ps).length : Nat), m) := fun z3 z4 z5 z6 z7 m => by
    have : fApp lenG (f1 (fV 2)) [some (.mr k), some (shD r ps), some (.lst ((spotsL ps).map spotD)), z3, z4, z5, z6, z7] m = some (.int (((spotsL ps).map spotD).length : Nat), m) := rfl
    rw [List.length_map] at this; exact this
  have key : HS k (b_law_bent (F j)) [some (.mr k), some (shD r ps), some (.lst ((spotsL ps).map spotD)), none, none, none, none, none] fun d => smD d = true ∧ placeB ps d = false := by
    refine hs_set (Qa := fun x => ∃ s ∈ spotsL ps, x = spotD s) (hf_pick (l := (spotsL ps).map spotD) (a := ((spotsL ps).length : Int)) (by omega) (fun m => rfl) (by simp) (by have := List.length_pos_iff.mpr hne; omega) (fun m => rfl) (hlen _ _ _ _ _) fun d hd => ?_) fun x ⟨s, hs, e⟩ => ?_
    · obtain ⟨s, hs, rfl⟩ := List.mem_map.mp hd
      exact ⟨s, hs, rfl⟩
    · subst e
      obtain ⟨t, u, PS⟩ := spot_of S hs
      have hq := short_of PS.len
      have hp := short_of LS.len
      have sma : s.1.length ≤ 1000 := sm_str (name_sm S.nms (List.mem_map.mpr ⟨_, PS.mem, rfl⟩))
      have smb : l.1.length ≤ 1000 := sm_str (name_sm S.nms (List.mem_map.mpr ⟨_, LS.mem, rfl⟩))
      have all := fun d (hd : d ∈ bentL s.1 s.2 l.1 l.2) => (⟨bent_sm sma smb hq hp d hd, bent_no S PS LS hleaf d hd⟩ : smD d = true ∧ placeB ps d = false)
      revert all
      obtain ⟨a, q⟩ := s
      obtain ⟨b, p⟩ := l
      intro all
      have hq : short q := hq
      have hp : short p := hp
      refine hs_set (Qa := fun x => x = spotD (b, p)) (hf_pure (fun m => x_bin (a := .lst ((spotsL ps).map spotD)) (b := .int (-1)) rfl rfl (show atI _ _ = _ from atI_last (by rw [List.getLast?_map, hlast]; rfl))) rfl) fun x hx => ?_
      subst hx
      show HS k _ [some (.mr k), some (shD r ps), some (.lst ((spotsL ps).map spotD)), some (spotD (a, q)), some (spotD (b, p)), none, none, none] _
      refine hsb_first (c := 8) (B := [.non, .int 5, .str a, pD q, .tup [.str a], .lst [.str a, pD q], .tup [.str a, .lst (q.map .int)], .tup [.str a, .non]]) (fun m => rfl) rfl fun A hA lA => ?_
      refine hsb_more (a := 8) (c := 4) (B := [.tup [.str (Str.ofString "zz"), pD q], .tup [.str a, .tup (q.map .int ++ [.int 9])], .tup [.str a, .tup (q.map .int ++ [.int (-1)])], .tup [pD q, .str a]]) lA (fun A m => by rcases hq with rfl | ⟨x, rfl⟩ | ⟨x, y, rfl⟩ <;> rfl) rfl (by decide) fun A2 hA2 lA => ?_
      refine hsb_more (a := 12) (c := 4) (B := [.tup [.str a, pD q, .int 0], .tup [.str a, .tup (q.map .int ++ [.non])], .tup [.non, pD q], .tup [.str a, .tup (q.map .int ++ [.str (Str.ofString "0")])]]) lA (fun A m => by rcases hq with rfl | ⟨x, rfl⟩ | ⟨x, y, rfl⟩ <;> rfl) rfl (by decide) fun A3 hA3 lA => ?_
      refine hsb_more (a := 16) (c := 4) (B := [.tup [.str b, .tup (p.map .int ++ [.int 0])], .tup [.str a, .tup (q.map .int ++ [.bl true] ++ List.replicate 12 (.bl false))], .tup [.str (Str.ofString ""), .tup []], .tup [.str a, .int 0]]) lA (fun A m => by rcases hq with rfl | ⟨x, rfl⟩ | ⟨x, y, rfl⟩ <;> rcases hp with rfl | ⟨x', rfl⟩ | ⟨x', y', rfl⟩ <;> rfl) rfl (by decide) fun A4 hA4 lA => ?_
      refine hs_set (Qa := fun x => x = .tup [.str a, .tup (q.map fun i => .bl (decide (i = 1)))]) (hf_pure (fun m => x_tup2 (x_bin rfl rfl rfl) (x_app1 (fLc_run (g := fun d => match d with | .int i => .bl (decide (i = 1)) | _ => .non) (l := q.map .int) (x_items (x_bin rfl rfl rfl) rfl) (fun d hd => ?_) ?_) ?_)) rfl) fun x hx => ?_
      · obtain ⟨i, _, rfl⟩ := List.mem_map.mp hd
        exact x_bin rfl rfl (eqG_int i 1 m)
      · have := PS.len
        rw [List.length_map]
        exact sz1000' (Nat.le_trans this (by decide))
      · show some (D.tup _) = some (D.tup _)
        rw [List.map_map]; rfl
      subst hx
      show HS k _ [some (.mr k), some (shD r ps), some (.lst ((spotsL ps).map spotD)), some (spotD (a, q)), some (spotD (b, p)), some (.lst A4), some (.tup [.str a, .tup (q.map fun i => .bl (decide (i = 1)))]), none] _
      have fin : HS k (sRet (fBin ixG (fBin addG (fV 5) (fBin mulG (fLst (faCons (fV 6) (faNil))) (fC (.int 4)))) (fCall (F j .law_take) (faCons (fV 0) (faCons (fC (.int 24)) (faNil)))))) [some (.mr k), some (shD r ps), some (.lst ((spotsL ps).map spotD)), some (spotD (a, q)), some (spotD (b, p)), some (.lst A4), some (truD a q), none] fun d => smD d = true ∧ placeB ps d = false := by
        refine hs_ret (hf_pick (l := A4 ++ [truD a q, truD a q, truD a q, truD a q]) (a := 24) (by omega) (fun m => x_bin (a := .lst A4) (b := .lst [truD a q, truD a q, truD a q, truD a q]) rfl rfl (add_lst (by rw [lA]; simp))) (by rw [List.length_append, lA]; rfl) (by omega) (fun m => rfl) (fun m => rfl) fun d hd => ?_)
        rw [hA4, hA3, hA2, hA] at hd
        exact all d hd
      intro m hm
      have t1 : fT (fBin eqG (fBin ixG (fV 3) (fC (.int 1))) (fTup faNil)) [some (.mr k), some (shD r ps), some (.lst ((spotsL ps).map spotD)), some (spotD (a, q)), some (spotD (b, p)), some (.lst A4), some (.tup [.str a, .tup (q.map fun i => .bl (decide (i = 1)))]), none] m = some (q.isEmpty, m) :=
        x_t (x_bin (b := .tup []) (m1 := m) (m2 := m) (x_bin rfl rfl rfl) (by
          show (if ([] : List D).length ≤ sizeLine then some (D.tup [], m) else none) = _
          rw [if_pos (sz1000 (by simp))]) (eq_unit q))
      obtain ⟨d, m', e, st, qq⟩ := fin m hm
      refine ⟨d, m', ?_, st, qq⟩
      by_cases hq0 : q = []
      · subst hq0
        refine x_seq (m1 := m) (ε1 := [some (.mr k), some (shD r ps), some (.lst ((spotsL ps).map spotD)), some (spotD (a, [])), some (spotD (b, p)), some (.lst A4), some (truD a []), none]) (x_ifT t1 rfl) e
      · have e0 : q.isEmpty = false := by simpa using hq0
        rw [e0] at t1
        have : truD a q = .tup [.str a, .tup (q.map fun i => .bl (decide (i = 1)))] := by unfold truD; rw [if_neg hq0]
        rw [this] at e
        exact x_seq (x_ifF t1 x_nx) e
  obtain ⟨d, m', e, s, q⟩ := key m hm
  exact ⟨d, m', Fr_law_bent e s.len, s, q⟩
end
end KK
end
section
set_option Elab.async false
set_option linter.all false
set_option maxRecDepth 100000
set_option maxHeartbeats 4000000
namespace KK
open PySem PySem.Spec PyProof.Rows L2 DL
section
variable {r : Str} {ps : List (Str × D)} {n : Nat} {m : M} {cl : Cid → Addr} {t : FT} {f g fx : FSX} {ε : Ev}
theorem xi_T {o : Option OX} (h : t ε m = some (true, m)) (h2 : f ε m = o) : xIf t f g ε m = o := by
  unfold xIf; rw [h]; exact h2
theorem xi_F {o : Option OX} (h : t ε m = some (false, m)) (h2 : g ε m = o) : xIf t f g ε m = o := by
  unfold xIf; rw [h]; exact h2
theorem hand_sheet : handOf cl (cl .InvalidSheet) = some (sSet 4 (fC (.str "sheet."))) := if_pos rfl
theorem hand_place (hc : cl .InvalidSheet ≠ cl .InvalidPlace) : handOf cl (cl .InvalidPlace) = some (sSet 4 (fC (.str "place."))) := by
  unfold handOf
  rw [if_neg (fun e => hc e.symm), if_pos rfl]
theorem asked_try {a b c d : D} {C : Addr} {w : Str} (hx : x_law_asked (F n) cl [some a, some b, some c, some d, some (.str ""), none] m = some (.ex C [some a, some b, some c, some d, some (.str ""), none] m)) (hh : handOf cl C = some (sSet 4 (fC (.str w)))) : c2 n cl .law_asked [a, b, c, d] m = some (.str w, m) := by
  show fnD 4 6 (b_law_asked (F n) cl) [a, b, c, d] m = _
  refine fnD_rt2 (ε := [some a, some b, some c, some d, none, none]) rfl rfl (x_seq (ε1 := [some a, some b, some c, some d, some (.str ""), none]) (m1 := m) rfl (x_seq (ε1 := [some a, some b, some c, some d, some (.str w), none]) (m1 := m) ?_ rfl)) rfl
  unfold sTry
  rw [hx]
  show (if 5 < 6 then (handOf cl C).bind _ else none) = _
  rw [if_pos (by decide), hh]
  rfl
theorem way_is {i j : Int} {b c d e z : Option D} : fT (fBin eqG (fV 0) (fC (.int j))) [some (.int i), b, c, d, e, z] m = some (decide (i = j), m) := x_t (x_bin rfl rfl (eqG_int _ _ _))
theorem x_ways {i : Nat} (hi : i < 10) {b c d : D} {C : Addr}
    (h0 : i = 0 → g_places (F n) cl [b] m = some (.ex C m)) (h1 : i = 1 → g_part (F n) cl [b, c] m = some (.ex C m)) (h2 : i = 2 → g_lifted (F n) cl [b, c, d] m = some (.ex C m)) (h3 : i = 3 → g_inlined (F n) cl [b, c] m = some (.ex C m)) (h4 : i = 4 → g_changed (F n) cl [b, c, d] m = some (.ex C m)) (h5 : i = 5 → g_grafted (F n) cl [b, c, d] m = some (.ex C m))
    (h6 : i = 6 → g_renamed (F n) cl [b, d] m = some (.ex C m)) (h7 : i = 7 → g_rooted (F n) cl [b, d] m = some (.ex C m)) (h8 : i = 8 → g_trimmed (F n) cl [b] m = some (.ex C m)) (h9 : i = 9 → g_unrolled (F n) cl [b, d] m = some (.ex C m)) :
    x_law_asked (F n) cl [some (.int (i : Nat)), some b, some c, some d, some (.str ""), none] m = some (.ex C [some (.int (i : Nat)), some b, some c, some d, some (.str ""), none] m) := by
  have tt : ∀ {i j : Int}, decide (i = j) = true → fT (fBin eqG (fV 0) (fC (.int j))) [some (.int i), some b, some c, some d, some (.str ""), none] m = some (true, m) := fun {i j} h => by rw [way_is, h]
  have ff : ∀ {i j : Int}, decide (i = j) = false → fT (fBin eqG (fV 0) (fC (.int j))) [some (.int i), some b, some c, some d, some (.str ""), none] m = some (false, m) := fun {i j} h => by rw [way_is, h]
  match i, hi with
  | 0, _ => exact xi_T (tt (by decide)) (xc_ex rfl (h0 rfl))
  | 1, _ => exact xi_F (ff (by decide)) (xi_T (tt (by decide)) (xc_ex rfl (h1 rfl)))
  | 2, _ => exact xi_F (ff (by decide)) (xi_F (ff (by decide)) (xi_T (tt (by decide)) (xc_ex rfl (h2 rfl))))
  | 3, _ => exact xi_F (ff (by decide)) (xi_F (ff (by decide)) (xi_F (ff (by decide)) (xi_T (tt (by decide)) (xc_ex rfl (h3 rfl)))))
  | 4, _ => exact xi_F (ff (by decide)) (xi_F (ff (by decide)) (xi_F (ff (by decide)) (xi_F (ff (by decide)) (xi_T (tt (by decide)) (xc_ex rfl (h4 rfl))))))
  | 5, _ => exact xi_F (ff (by decide)) (xi_F (ff (by decide)) (xi_F (ff (by decide)) (xi_F (ff (by decide)) (xi_F (ff (by decide)) (xi_T (tt (by decide)) (xc_ex rfl (h5 rfl)))))))
  | 6, _ => exact xi_F (ff (by decide)) (xi_F (ff (by decide)) (xi_F (ff (by decide)) (xi_F (ff (by decide)) (xi_F (ff (by decide)) (xi_F (ff (by decide)) (xi_T (tt (by decide)) (xc_ex rfl (h6 rfl))))))))
  | 7, _ => exact xi_F (ff (by decide)) (xi_F (ff (by decide)) (xi_F (ff (by decide)) (xi_F (ff (by decide)) (xi_F (ff (by decide)) (xi_F (ff (by decide)) (xi_F (ff (by decide)) (xi_T (tt (by decide)) (xc_ex rfl (h7 rfl)))))))))
  | 8, _ => exact xi_F (ff (by decide)) (xi_F (ff (by decide)) (xi_F (ff (by decide)) (xi_F (ff (by decide)) (xi_F (ff (by decide)) (xi_F (ff (by decide)) (xi_F (ff (by decide)) (xi_F (ff (by decide)) (xi_T (tt (by decide)) (xc_ex rfl (h8 rfl))))))))))
  | 9, _ => exact xi_F (ff (by decide)) (xi_F (ff (by decide)) (xi_F (ff (by decide)) (xi_F (ff (by decide)) (xi_F (ff (by decide)) (xi_F (ff (by decide)) (xi_F (ff (by decide)) (xi_F (ff (by decide)) (xi_F (ff (by decide)) (xc_ex rfl (h9 rfl))))))))))
theorem asked_no_sheet {i : Nat} (hi : i < 10) (hn : 47 ≤ n) {v c d : D} (hv : NotSh v) : c2 n cl .law_asked [.int (i : Nat), v, c, d] m = some (.str "sheet.", m) := by
  have e := gx_sheet_no (cl := cl) (m := m) (hv n hn)
  refine asked_try (C := cl .InvalidSheet) (x_ways hi ?_ ?_ ?_ ?_ ?_ ?_ ?_ ?_ ?_ ?_) hand_sheet <;> (intro; exact fnX_ex rfl rfl (xs_ex (xc_ex rfl e)))
theorem asked_no_place (hc : cl .InvalidSheet ≠ cl .InvalidPlace) {i : Nat} (h0 : 0 < i) (hi : i < 6) (hn : 47 ≤ n) (S : Sh r ps) {c d : D} (hv : smD c = true ∧ placeB ps c = false) : c2 n cl .law_asked [.int (i : Nat), shD r ps, c, d] m = some (.str "place.", m) := by
  have e1 := gx_sheet_ok (cl := cl) (m := m) (v := shD r ps) (n := n) fun m => S.ok hn
  have e2 := gx_place_no (cl := cl) (m := m) (s := shD r ps) (v := c) (n := n) fun m => (ev_place S (by omega) c hv.1).trans (by rw [hv.2])
  refine asked_try (C := cl .InvalidPlace) (x_ways (by omega) ?_ ?_ ?_ ?_ ?_ ?_ ?_ ?_ ?_ ?_) (hand_place hc)
  · intro; omega
  · intro; exact fnX_ex rfl rfl (xs_nx (xc_ok rfl e1) (xs_ex (xc_ex rfl e2)))
  · intro; exact fnX_ex rfl rfl (xs_nx (xc_ok rfl e1) (xs_ex (xc_ex rfl e2)))
  · intro; exact fnX_ex rfl rfl (xs_nx (xc_ok rfl e1) (xs_ex (xc_ex rfl e2)))
  · intro; exact fnX_ex rfl rfl (xs_nx (xc_ok rfl e1) (xs_ex (xc_ex rfl e2)))
  · intro; exact fnX_ex rfl rfl (xs_nx (xc_ok rfl e1) (xs_ex (xc_ex rfl e2)))
  · intro; omega
  · intro; omega
  · intro; omega
  · intro; omega
theorem spot_place (S : Sheet r ps) {s : Str × List Int} {t u : D} (P : Spot ps s t u) : placeB ps (spotD s) = true := by
  show (((s.2.map D.int).all stepB) && (match findE ps s.1 with | some t => (atD t (intsOf (s.2.map .int))).isSome | none => false)) = true
  rw [P.fe]
  have e : intsOf (s.2.map D.int) = s.2 := by simp [intsOf, Function.comp_def]
  show (((s.2.map D.int).all stepB) && (atD t (intsOf (s.2.map .int))).isSome) = true
  rw [e, P.at_, Bool.and_eq_true]
  refine ⟨?_, rfl⟩
  rw [List.all_eq_true]
  intro d hd
  obtain ⟨i, hi, rfl⟩ := List.mem_map.mp hd
  exact decide_eq_true (P.nn i hi)
theorem spot_sm (S : Sheet r ps) {s : Str × List Int} {t u : D} (P : Spot ps s t u) : smD (spotD s) = true := by
  have sma := name_sm S.nms (List.mem_map.mpr ⟨_, P.mem, rfl⟩)
  refine sm_tupI (by simp) fun x hx => ?_
  simp at hx
  rcases hx with rfl | rfl
  · exact sma
  · refine sm_tupI (by have := P.len; rw [List.length_map]; omega) fun x hx => ?_
    obtain ⟨i, _, rfl⟩ := List.mem_map.mp hx
    rfl
theorem asked_third (hn : 47 ≤ n) (S : Sheet r ps) {s : Str × List Int} (hs : s ∈ spotsL ps) {d : D} (hv : NotSh d) : c2 n cl .law_asked [.int ((5 : Nat) : Int), shD r ps, spotD s, d] m = some (.str "sheet.", m) := by
  obtain ⟨t, u, P⟩ := spot_of S hs
  have e1 := gx_sheet_ok (cl := cl) (m := m) (v := shD r ps) (n := n) fun m => S.sh.ok hn
  have e2 := gx_place_ok (cl := cl) (m := m) (s := shD r ps) (v := spotD s) (n := n) fun m => (ev_place S.sh (by omega) _ (spot_sm S P)).trans (by rw [spot_place S P])
  have e3 := gx_sheet_no (cl := cl) (m := m) (hv n hn)
  refine asked_try (C := cl .InvalidSheet) (x_ways (i := 5) (by omega) ?_ ?_ ?_ ?_ ?_ ?_ ?_ ?_ ?_ ?_) hand_sheet
  · intro h; omega
  · intro h; omega
  · intro h; omega
  · intro h; omega
  · intro h; omega
  · intro; exact fnX_ex rfl rfl (xs_nx (xc_ok rfl e1) (xs_nx (xc_ok rfl e2) (xs_ex (xc_ex rfl e3))))
  · intro h; omega
  · intro h; omega
  · intro h; omega
  · intro h; omega
end
end KK
end
section
set_option Elab.async false
set_option linter.all false
set_option maxRecDepth 100000
set_option maxHeartbeats 4000000
namespace KK
open PySem PySem.Spec PyProof.Rows L2 DL
section
variable {n : Nat} {m : M}
theorem pw64 : (2 : Int) ^ 64 = 18446744073709551616 := by decide
theorem mul_r {i j : Int} (h1 : -1000000000000 < j) (h2 : j < 1000000000000) : mulG (.int i) (.int j) m = some (.int (i * j)) := by
  show (if (-(2 ^ 64) < i ∧ i < 2 ^ 64) ∨ (-(2 ^ 64) < j ∧ j < 2 ^ 64) then some (D.int (i * j)) else none) = _
  rw [if_pos]
  rw [pw64]
  exact .inr ⟨by omega, by omega⟩
theorem mul_l {i j : Int} (h1 : -1000000000000 < i) (h2 : i < 1000000000000) : mulG (.int i) (.int j) m = some (.int (i * j)) := by
  show (if (-(2 ^ 64) < i ∧ i < 2 ^ 64) ∨ (-(2 ^ 64) < j ∧ j < 2 ^ 64) then some (D.int (i * j)) else none) = _
  rw [if_pos]
  rw [pw64]
  exact .inl ⟨by omega, by omega⟩
theorem mod_r {i j : Int} (h : j ≠ 0) : modG (.int i) (.int j) m = some (.int (i.fmod j)) := by
  show (if j ≠ 0 then some (D.int (i.fmod j)) else none) = _
  rw [if_pos h]
theorem fdiv_r {i j : Int} (h : j ≠ 0 ∧ j.natAbs < 1073741824) : fdivG (.int i) (.int j) m = some (.int (i.fdiv j)) := by
  show (if j ≠ 0 ∧ j.natAbs < 1073741824 then some (D.int (i.fdiv j)) else none) = _
  rw [if_pos h]
theorem apnd_end {i : Nat} {f : DL.F} {ε : Ev} {l : List D} {x : D} (h0 : fV i ε (m ++ [l]) = some (.mr m.length, m ++ [l])) (hx : f ε (m ++ [l]) = some (x, m ++ [l])) (hl : l.length < 1000) : fApnd (fV i) f ε (m ++ [l]) = some (.non, m ++ [l ++ [x]]) := by
  unfold fApnd
  rw [h0]; simp only [Option.bind_some]
  rw [hx]; simp only [Option.bind_some]
  rw [show (m ++ [l])[m.length]? = some l by simp]
  simp only [Option.bind_some]
  rw [if_pos (sz1000' (by omega))]
  simp
def bagS : FS := (sSeq (sSet 3 (fBin modG (fApp intG (f1 (fBin addG (fBin addG (fBin mulG (fV 3) (fC (.int 40014))) (fBin mulG (fBin mulG (fV 5) (fV 5)) (fC (.int 53)))) (fC (.int 11))))) (fC (.int 2147483563)))) (sIf (fT (fBin gtG (fV 2) (fC (.int 0)))) (sSeq (sExp (fApnd (fV 4) (fBin modG (fApp intG (f1 (fV 2))) (fC (.int 30030))))) (sSet 2 (fBin fdivG (fV 2) (fC (.int 30030))))) (sExp (fApnd (fV 4) (fBin modG (fBin fdivG (fBin modG (fApp intG (f1 (fBin mulG (fV 3) (fBin addG (fBin fdivG (fV 3) (fC (.int 32))) (fC (.int 1)))))) (fC (.int 2147483399))) (fC (.int 7))) (fC (.int 30030)))))))
theorem bag_step {c k0 : Option D} {lf st : Int} {is : List Int} {i : Int} (h0 : 0 ≤ i) (h1 : i ≤ 1000) (hl : is.length < 1000) : ∃ lf' st' x : Int, bagS [c, k0, some (.int lf), some (.int st), some (.mr m.length), some (.int i)] (m ++ [is.map .int]) = some (.nx [c, k0, some (.int lf'), some (.int st'), some (.mr m.length), some (.int i)] (m ++ [(is ++ [x]).map .int])) := by
  have hl' : (is.map D.int).length < 1000 := by simpa using hl
  have e1 : ∀ z3, fBin modG (fApp intG (f1 (fBin addG (fBin addG (fBin mulG (fV 3) (fC (.int 40014))) (fBin mulG (fBin mulG (fV 5) (fV 5)) (fC (.int 53)))) (fC (.int 11))))) (fC (.int 2147483563)) [c, k0, some (.int lf), some (.int z3), some (.mr m.length), some (.int i)] (m ++ [is.map .int]) = some (.int ((z3 * 40014 + i * i * 53 + 11).fmod 2147483563), m ++ [is.map .int]) := fun z3 =>
    x_bin (x_app1 (x_bin (x_bin (x_bin rfl rfl (mul_r (by decide) (by decide))) (x_bin (x_bin rfl rfl (mul_r (by omega) (by omega))) rfl (mul_r (by decide) (by decide))) rfl) rfl rfl) rfl) rfl (mod_r (by decide))
  have b0 := Int.fmod_nonneg_of_pos (st * 40014 + i * i * 53 + 11) (b := 2147483563) (by decide)
  have b1 := Int.fmod_lt_of_pos (st * 40014 + i * i * 53 + 11) (b := 2147483563) (by decide)
  revert b0 b1
  have e1 := e1 st
  revert e1
  generalize (st * 40014 + i * i * 53 + 11).fmod 2147483563 = s1
  intro e1 b0 b1
  have tst : fT (fBin gtG (fV 2) (fC (.int 0))) [c, k0, some (.int lf), some (.int s1), some (.mr m.length), some (.int i)] (m ++ [is.map .int]) = some (decide (0 < lf), m ++ [is.map .int]) := x_t (x_bin rfl rfl rfl)
  unfold bagS
  by_cases hp : 0 < lf
  · refine ⟨lf.fdiv 30030, s1, lf.fmod 30030, x_seq (x_set (i := 3) e1) (x_ifT (bt tst (decide_eq_true hp)) (x_seq (m1 := m ++ [(is ++ [lf.fmod 30030]).map .int]) (ε1 := [c, k0, some (.int lf), some (.int s1), some (.mr m.length), some (.int i)]) (x_exp (d := .non) ?_) (x_set (i := 2) (x_bin rfl rfl (fdiv_r (by decide))))))⟩
    have := apnd_end (m := m) (i := 4) (f := fBin modG (fApp intG (f1 (fV 2))) (fC (.int 30030))) (ε := [c, k0, some (.int lf), some (.int s1), some (.mr m.length), some (.int i)]) (l := is.map .int) (x := .int (lf.fmod 30030)) rfl (x_bin (x_app1 rfl rfl) rfl (mod_r (by decide))) hl'
    rw [List.map_append]
    exact this
  · refine ⟨lf, s1, ((((s1 * (s1.fdiv 32 + 1)).fmod 2147483399).fdiv 7).fmod 30030), x_seq (x_set (i := 3) e1) (x_ifF (bt tst (decide_eq_false hp)) (x_exp (d := .non) ?_))⟩
    have := apnd_end (m := m) (i := 4) (f := fBin modG (fBin fdivG (fBin modG (fApp intG (f1 (fBin mulG (fV 3) (fBin addG (fBin fdivG (fV 3) (fC (.int 32))) (fC (.int 1)))))) (fC (.int 2147483399))) (fC (.int 7))) (fC (.int 30030))) (ε := [c, k0, some (.int lf), some (.int s1), some (.mr m.length), some (.int i)]) (l := is.map .int) (x := .int ((((s1 * (s1.fdiv 32 + 1)).fmod 2147483399).fdiv 7).fmod 30030)) rfl
      (x_bin (x_bin (x_bin (x_app1 (x_bin rfl (x_bin (x_bin rfl rfl (fdiv_r (by decide))) rfl rfl) (mul_l (by omega) (by omega))) rfl) rfl (mod_r (by decide))) rfl (fdiv_r (by decide))) rfl (mod_r (by decide))) hl'
    rw [List.map_append]
    exact this
theorem bag_loop {c k0 : Option D} : ∀ (q lo : Nat) (lf st : Int) (is : List Int) (z5 : Option D), lo + q ≤ 1000 → is.length + q ≤ 1000 → ∃ (lf' st' : Int) (is' : List Int) (z5' : Option D), loopD (DL.stN 5) bagS (rngD (lo : Int) q) [c, k0, some (.int lf), some (.int st), some (.mr m.length), z5] (m ++ [is.map .int]) = some (.nx [c, k0, some (.int lf'), some (.int st'), some (.mr m.length), z5'] (m ++ [is'.map .int]))
  | 0, lo, lf, st, is, z5, h1, h2 => ⟨lf, st, is, z5, rfl⟩
  | q + 1, lo, lf, st, is, z5, h1, h2 => by
    obtain ⟨lf1, st1, x, e1⟩ := bag_step (m := m) (c := c) (k0 := k0) (lf := lf) (st := st) (is := is) (i := (lo : Int)) (by omega) (by omega) (by omega)
    obtain ⟨lf2, st2, is2, z2, e2⟩ := bag_loop q (lo + 1) lf1 st1 (is ++ [x]) (some (.int (lo : Int))) (by omega) (by simp; omega)
    refine ⟨lf2, st2, is2, z2, ?_⟩
    rw [rngD_succ]
    unfold loopD
    show ((bagS [c, k0, some (.int lf), some (.int st), some (.mr m.length), some (.int lo)] (m ++ [is.map .int])).bind _) = _
    rw [e1]
    exact e2
theorem ev_bag (hm : pureM m = true) (c : Int) : ∃ is : List Int, nbag n [.int c, .int 160] m = some (is.map .int, m) := by
  have p18 : (10 : Int) ^ (18 : Int).toNat = 1000000000000000000 := by decide
  have s1 : fApp absG (f1 (fApp intG (f1 (fV 0)))) [some (.int c), some (.int 160), none, none, none, none] m = some (.int (if c < 0 then -c else c), m) := x_app1 (x_app1 rfl rfl) rfl
  generalize (if c < 0 then -c else c) = lf at s1
  have s2 : fBin addG (fBin modG (fApp intG (f1 (fV 2))) (fC (.int 2147483563))) (fC (.int 7)) [some (.int c), some (.int 160), some (.int lf), none, none, none] m = some (.int (lf.fmod 2147483563 + 7), m) := x_bin (x_bin (x_app1 rfl rfl) rfl (mod_r (by decide))) rfl rfl
  generalize lf.fmod 2147483563 + 7 = st at s2
  have s3 : ∃ lf', fBin mulG (fV 2) (fApp intG (f1 (fBin geG (fV 2) (fBin powG (fC (.int 10)) (fC (.int 18)))))) [some (.int c), some (.int 160), some (.int lf), some (.int st), none, none] m = some (.int lf', m) := by
    have e : fApp intG (f1 (fBin geG (fV 2) (fBin powG (fC (.int 10)) (fC (.int 18))))) [some (.int c), some (.int 160), some (.int lf), some (.int st), none, none] m = some (.int (if decide ((10 : Int) ^ (18 : Int).toNat ≤ lf) = true then 1 else 0), m) := x_app1 (x_bin (b := .int ((10 : Int) ^ (18 : Int).toNat)) rfl (x_bin rfl rfl (by
      show (if (0 : Int) ≤ 18 ∧ (18 : Int) ≤ 1000000 ∧ (10 : Int).natAbs < 2 ^ 64 then some (D.int ((10 : Int) ^ (18 : Int).toNat)) else none) = _
      rw [if_pos (by decide)])) rfl) rfl
    refine ⟨_, x_bin rfl e (mul_r ?_ ?_)⟩
    · split <;> decide
    · split <;> decide
  obtain ⟨lf', s3⟩ := s3
  obtain ⟨lf2, st2, is, z, e⟩ := bag_loop (m := m) (c := some (.int c)) (k0 := some (.int 160)) 160 0 lf' st [] none (by omega) (by simp)
  have body : bn_law_bag (F n) [some (.int c), some (.int 160), none, none, none, none] m = some (.rn (is.reverse.map .int) (m ++ [is.map .int])) := by
    unfold bn_law_bag
    refine x_seq (x_set (i := 2) s1) (x_seq (x_set (i := 3) s2) (x_seq (x_set (i := 2) s3) (x_seq (ε1 := [some (.int c), some (.int 160), some (.int lf'), some (.int st), some (.mr m.length), none]) (m1 := m ++ [[]]) ?_ (x_seq (ε1 := [some (.int c), some (.int 160), some (.int lf2), some (.int st2), some (.mr m.length), z]) (m1 := m ++ [is.map .int]) ?_ ?_))))
    · show (if ([] : List D).length ≤ sizeLine then _ else none) = _
      rw [if_pos (sz1000 (by simp))]; rfl
    · unfold sFor
      rw [x_rng1 (k := 160) rfl (by decide)]
      exact e
    · unfold sRetN fRevN
      show (Option.map _ ((m ++ [is.map D.int])[m.length]?.map fun l => (l.reverse, m ++ [is.map .int]))) = _
      rw [show (m ++ [is.map D.int])[m.length]? = some (is.map .int) by simp]
      simp
  refine ⟨is.reverse, ?_⟩
  show fnN 2 6 (bn_law_bag (F n)) _ m = _
  unfold fnN
  rw [if_pos (by rfl)]
  show ((bn_law_bag (F n) [some (.int c), some (.int 160), none, none, none, none] m).bind _) = _
  rw [body]
  show finN m.length (is.reverse.map D.int) (m ++ [is.map D.int]) = _
  unfold finN
  rw [if_neg (by simp), if_pos ⟨by rw [List.take_left']; exact hm; rfl, puresD_ints _⟩, List.take_left' rfl]
end
end KK
end
section
set_option Elab.async false
set_option linter.all false
set_option maxRecDepth 100000
set_option maxHeartbeats 4000000
namespace KK
open PySem PySem.Spec PyProof.Rows L2 DL
/-! ### statements that draw and go on -/
structure Pre (P : M → Prop) (k : Nat) : Prop where
  bag : ∀ m, P m → IsBag k m
  st : ∀ m m', P m → St k m m' → P m'
def HN (P : M → Prop) (k : Nat) (s : FS) (ε : Ev) (R : Ev → Prop) : Prop := ∀ m, P m → ∃ ε' m', s ε m = some (.nx ε' m') ∧ St k m m' ∧ R ε'
def HT (P : M → Prop) (k : Nat) (t : FT) (ε : Ev) (b : Bool) : Prop := ∀ m, P m → ∃ m', t ε m = some (b, m') ∧ St k m m'
section
variable {P : M → Prop} {k : Nat} {s s2 : FS} {f g : DL.F} {t u : FT} {ε ε1 : Ev} {R R2 : Ev → Prop} {Qa : D → Prop} {b : Bool}
theorem hn_set {i : Nat} (I : Pre P k) (h : HF k f ε Qa) (h2 : ∀ d, Qa d → HN P k s (ε.set i (some d)) R) : HN P k (sSeq (sSet i f) s) ε R := fun m hm => by
  obtain ⟨d, m1, e1, s1, q1⟩ := h m (I.bag m hm)
  obtain ⟨ε2, m2, e2, s2, q2⟩ := h2 d q1 m1 (I.st _ _ hm s1)
  exact ⟨ε2, m2, x_seq (x_set e1) e2, s1.trans s2, q2⟩
theorem hn_if {s0 : FS} (I : Pre P k) (h : HT P k t ε false) (h2 : HN P k s2 ε R) : HN P k (sSeq (sIf t s0 sNx) s2) ε R := fun m hm => by
  obtain ⟨m1, e1, s1⟩ := h m hm
  obtain ⟨ε2, m2, e2, s2, q2⟩ := h2 m1 (I.st _ _ hm s1)
  exact ⟨ε2, m2, x_seq (x_ifF e1 x_nx) e2, s1.trans s2, q2⟩
theorem hn_ifE {s0 : FS} (h : HT P k t ε false) (r : R ε) : HN P k (sIf t s0 sNx) ε R := fun m hm => by
  obtain ⟨m1, e1, s1⟩ := h m hm
  exact ⟨ε, m1, x_ifF e1 x_nx, s1, r⟩
theorem ht_f (I : Pre P k) (h : HF k f ε fun d => d = .bl b) : HT P k (fT f) ε b := fun m hm => by
  obtain ⟨d, m1, e1, s1, q1⟩ := h m (I.bag m hm)
  subst q1
  exact ⟨m1, x_t e1, s1⟩
theorem ht_tru (I : Pre P k) (h : HF k f ε fun d => d = .bl b) : HT P k (fTru f) ε b := fun m hm => by
  obtain ⟨d, m1, e1, s1, q1⟩ := h m (I.bag m hm)
  subst q1
  exact ⟨m1, x_tru e1, s1⟩
theorem ht_pure (I : Pre P k) (h : ∀ m, P m → t ε m = some (b, m)) : HT P k t ε b := fun m hm => ⟨m, h m hm, St.refl (I.bag m hm)⟩
theorem ht_not (h : HT P k t ε b) : HT P k (fNotT t) ε (!b) := fun m hm => by
  obtain ⟨m1, e1, s1⟩ := h m hm
  exact ⟨m1, x_notT e1, s1⟩
theorem ht_or (I : Pre P k) (h : HT P k t ε false) (h2 : HT P k u ε b) : HT P k (fOrT t u) ε b := fun m hm => by
  obtain ⟨m1, e1, s1⟩ := h m hm
  obtain ⟨m2, e2, s2⟩ := h2 m1 (I.st _ _ hm s1)
  exact ⟨m2, x_orTF e1 e2, s1.trans s2⟩
theorem ht_and0 (h : HT P k t ε false) : HT P k (fAndT t u) ε false := fun m hm => by
  obtain ⟨m1, e1, s1⟩ := h m hm
  exact ⟨m1, x_andTF e1, s1⟩
theorem ht_and1 (I : Pre P k) (h : HT P k t ε true) (h2 : HT P k u ε b) : HT P k (fAndT t u) ε b := fun m hm => by
  obtain ⟨m1, e1, s1⟩ := h m hm
  obtain ⟨m2, e2, s2⟩ := h2 m1 (I.st _ _ hm s1)
  exact ⟨m2, x_andTT e1 e2, s1.trans s2⟩
theorem hn_loop (I : Pre P k) {st : StD} {body : FS} : ∀ (l : List D) (ε : Ev), R ε → (∀ d ∈ l, ∀ ε, R ε → ∃ ε1, st d ε = some ε1 ∧ HN P k body ε1 R) → ∀ m, P m → ∃ ε' m', loopD st body l ε m = some (.nx ε' m') ∧ St k m m' ∧ R ε'
  | [], ε, r, h, m, hm => ⟨ε, m, rfl, St.refl (I.bag m hm), r⟩
  | d :: l, ε, r, h, m, hm => by
    obtain ⟨ε1, e0, h1⟩ := h d List.mem_cons_self ε r
    obtain ⟨ε2, m2, e1, s1, r2⟩ := h1 m hm
    obtain ⟨ε3, m3, e3, s3, r3⟩ := hn_loop I l ε2 r2 (fun x hx => h x (List.mem_cons_of_mem _ hx)) m2 (I.st _ _ hm s1)
    refine ⟨ε3, m3, ?_, s1.trans s3, r3⟩
    unfold loopD
    rw [e0]; simp only [Option.bind_some]
    rw [e1]; simp only [Option.bind_some]
    exact e3
end
/-! ### parts of what is small -/
theorem dOk_in {k : Nat} {l : List D} {x : D} (h : dOk (k + 1) (.tup l) = true) (hx : x ∈ l) : dOk k x = true := by
  rw [dOk, Bool.and_eq_true] at h
  exact List.all_eq_true.mp h.2 x hx
theorem dOk_pos {k : Nat} {l : List D} (h : dOk k (.tup l) = true) : ∃ j, k = j + 1 := by
  cases k with
  | zero => simp [dOk] at h
  | succ j => exact ⟨j, rfl⟩
theorem dOk_mem {k : Nat} {l : List D} {x : D} (h : dOk k (.tup l) = true) (hx : x ∈ l) : dOk k x = true := by
  obtain ⟨j, rfl⟩ := dOk_pos h
  exact dOk_mono (dOk_in h hx) (by omega)
theorem dOk_parts {k j : Nat} {t p : D} (T : Tm j t) (h : dOk k t = true) (hp : p ∈ partsD t) : dOk k p = true := by
  cases T with
  | leaf hw => rw [pd_leaf _ hw] at hp; cases hp
  | ref => cases hp
  | row hh =>
    rw [pd_row] at hp
    exact dOk_mem (dOk_mem h (x := .tup _) (by simp)) hp
  | either hh =>
    rw [pd_either] at hp
    obtain ⟨q, hq, rfl⟩ := List.mem_map.mp hp
    exact dOk_mem (dOk_mem (dOk_mem h (x := .tup _) (List.mem_cons_of_mem _ List.mem_cons_self)) (List.mem_map.mpr ⟨q, hq, rfl⟩)) (by simp)
  | two hw hx hy =>
    rw [pd_two _ _ hw] at hp
    exact dOk_mem h (List.mem_cons_of_mem _ hp)
  | one hw hy =>
    rw [pd_one _ _ hw] at hp
    exact dOk_mem h (List.mem_cons_of_mem _ (List.mem_cons_of_mem _ hp))
theorem dOk_at : ∀ {q : List Int} {k j : Nat} {t u : D}, Tm j t → dOk k t = true → atD t q = some u → dOk k u = true
  | [], k, j, t, u, T, h, ha => by cases ha; exact h
  | i :: q, k, j, t, u, T, h, ha => by
    obtain ⟨hi, p, e3, hap⟩ := at_cons (k := 0) ha
    have hm := List.mem_of_getElem? e3
    cases j with
    | zero => cases T
    | succ j => exact dOk_at (tm_parts T p hm) (dOk_parts T h hm) hap
section
variable {r : Str} {ps : List (Str × D)} {n k : Nat} {m : M} {cl : Cid → Addr}
theorem spots_dok (S : Sheet r ps) : dOk 3 (.lst ((spotsL ps).map spotD)) = true := by
  rw [dOk, Bool.and_eq_true]
  refine ⟨decide_eq_true ?_, List.all_eq_true.mpr fun d hd => ?_⟩
  · have h1 := S.sh.spots_len
    have h2 := S.len
    rw [List.length_map]; omega
  · obtain ⟨s, hs, rfl⟩ := List.mem_map.mp hd
    obtain ⟨t, u, P⟩ := spot_of S hs
    refine dOk_tup (by simp) fun x hx => ?_
    simp at hx
    rcases hx with rfl | rfl
    · rfl
    · refine dOk_tup (by have := P.len; rw [List.length_map]; omega) fun x hx => ?_
      obtain ⟨i, _, rfl⟩ := List.mem_map.mp hx
      rfl
theorem spots_tups (qs : List (Str × List Int)) : tupsD (qs.map spotD) = true := by
  have ti : ∀ q : List Int, tupsD (q.map .int) = true := fun q => by
    induction q with
    | nil => rfl
    | cons i r ih => rw [List.map_cons, tupsD, ih]; rfl
  induction qs with
  | nil => rfl
  | cons s r ih =>
    rw [List.map_cons, tupsD, ih, Bool.and_true]
    show tupsD [.str s.1, pD s.2] = true
    rw [tupsD, tupsD, tupsD]
    show (true && (tupsD (s.2.map .int) && true)) = true
    rw [ti]; rfl
theorem spots_pures (qs : List (Str × List Int)) (x : List D) (hx : puresD x = true) : puresD (qs.map spotD ++ x) = true := by
  induction qs with
  | nil => exact hx
  | cons s r ih =>
    rw [List.map_cons, List.cons_append, puresD, ih, Bool.and_true]
    show puresD [.str s.1, pD s.2] = true
    rw [puresD, puresD, puresD]
    show (true && (puresD (s.2.map .int) && true)) = true
    rw [puresD_ints]; rfl
theorem ev_part (S : Sh r ps) (h : 60 ≤ n) {s : Str × List Int} {t u : D} (P : Spot ps s t u) (hs : smD (spotD s) = true) (hpl : placeB ps (spotD s) = true) : F n .part [shD r ps, spotD s] m = some (u, m) := by
  obtain ⟨j, rfl, hj⟩ := pred (k := 59) h
  obtain ⟨j, rfl, hj⟩ := pred (k := 58) hj
  refine Fr_part (x_seq (x_exp (x_call1 rfl (ev_need_sheet fun m => S.ok (by omega)))) (x_seq (x_exp (x_call2 rfl rfl (ev_need_place fun m => (ev_place S (by omega) _ hs).trans (by rw [hpl])))) (x_ret ?_)))
  refine x_call2 (x_call2 rfl (x_bin rfl rfl rfl) (ev_term_of_name (by omega) s.1)) (b := pD s.2) (x_bin rfl rfl rfl) ?_
  rw [P.fe]
  refine (ev_term_at (by omega) (tm_of (S.tm _ P.mem)) (S.smT P.mem) P.nn).trans ?_
  rw [P.at_]; rfl
theorem pick_lenB (q : Nat) (i : Int) (h0 : 0 ≤ i) (hq : q ≤ 1000) : (pickI q (some i) 2).length ≤ sizeLine := by
  refine sz1000 ?_
  have e : sliceBounds (some i) none (some 2) q = (max 0 (min i (q : Int)), (q : Int), 2) := by
    unfold sliceBounds
    simp [Int.not_lt.mpr h0]
  unfold pickI
  rw [e]
  show (sliceRange (max 0 (min i (q : Int))) (q : Int) 2).length ≤ 1000
  unfold sliceRange
  rw [List.length_map, List.length_range]
  simp only [show ((2 : Int) > 0) = True from eq_true (by decide), if_true]
  split
  · omega
  · simp
theorem ints_tups (b : List Int) : tupsD (b.map .int) = true := by
  induction b with
  | nil => rfl
  | cons i r ih => rw [List.map_cons, tupsD, ih]; rfl
/-- lists of integers alone -/
def Bags (m : M) : Prop := ∃ bs : List (List Int), m = bs.map fun b => b.map .int
theorem Bags.pure (h : Bags m) : pureM m = true := by
  obtain ⟨bs, rfl⟩ := h
  unfold pureM
  rw [List.all_eq_true]
  intro l hl
  obtain ⟨b, _, rfl⟩ := List.mem_map.mp hl
  exact puresD_ints b
theorem Bags.tups (h : Bags m) : m.all tupsD = true := by
  obtain ⟨bs, rfl⟩ := h
  rw [List.all_eq_true]
  intro l hl
  obtain ⟨b, _, rfl⟩ := List.mem_map.mp hl
  exact ints_tups b
theorem Bags.bag (h : Bags m) (hk : k < m.length) : IsBag k m := by
  obtain ⟨bs, rfl⟩ := h
  rw [List.length_map] at hk
  exact ⟨bs[k], by rw [List.getElem?_map, List.getElem?_eq_getElem hk]; rfl⟩
theorem Bags.st {m' : M} (h : Bags m) (s : St k m m') : Bags m' := by
  obtain ⟨bs, rfl⟩ := h
  obtain ⟨is, rfl⟩ := s
  exact ⟨bs.set k is, by rw [List.map_set]⟩
theorem Bags.app (h : Bags m) (is : List Int) : Bags (m ++ [is.map .int]) := by
  obtain ⟨bs, rfl⟩ := h
  exact ⟨bs ++ [is], by simp⟩
theorem hd_asked_s {l : List D} {i : Nat} (hi : i < 10) (hn : 47 ≤ n) (h : ∃ v c d, l = [.int (i : Nat), v, c, d] ∧ NotSh v) : HD k (c2 n cl .law_asked) l fun d => d = .str "sheet." := by
  obtain ⟨v, c, d, rfl, hv⟩ := h
  exact hd_pure (fun m => asked_no_sheet hi hn hv) rfl
theorem ne_same {s : Str} {f : DL.F} {ε : Ev} (h : HF k f ε fun d => d = .str s) : HF k (fBin neG f (fC (.str s))) ε fun d => d = .bl false := by
  refine hf_bin h fun a ha => ?_
  subst ha
  exact hf_pure (fun m => rfl) fun m => ⟨.bl false, (neG_str s s m).trans (by simp), rfl⟩
abbrev spE (k : Nat) (r : Str) (ps : List (Str × D)) (q : Nat) (z4 z5 z6 : Option D) : Ev := [some (.mr k), some (shD r ps), some (.lst ((spotsL ps).map spotD)), some (.mr q), z4, z5, z6]
theorem hf_around (S : Sheet r ps) (h : 3 ≤ n) {ε : Ev} {ja jb : Nat} (h1 : ∀ m, fV ja ε m = some (.mr k, m)) (h2 : ∀ m, fV jb ε m = some (shD r ps, m)) : HF k (fCall (F n .law_around) (faCons (fV ja) (faCons (fV jb) faNil))) ε NotSh :=
  hf_call2 (Qb := fun b => b = shD r ps) h1 (hf_pure h2 rfl) fun b hb => by subst hb; exact hd_around S h
theorem first_spot (S : Sheet r ps) : ∃ s ∈ spotsL ps, ∀ m, ixG (.lst ((spotsL ps).map spotD)) (.int 0) m = some (spotD s) := by
  have hne := spots_ne S
  cases e : spotsL ps with
  | nil => exact absurd e hne
  | cons s l => exact ⟨s, by simp, fun m => show atI _ ((0 : Nat) : Int) = _ from ix_get (by rw [List.map_cons]; rfl)⟩
def sp2 (n : Nat) (cl : Cid → Addr) : FS := (sSeq (sSet 6 (fBin ixG (fLst (faCons (fC .non) (faCons (fC (.int 5)) (faCons (fC (.str (Str.ofString "A"))) (faCons (fUn negG (fC (.int 1))) (faCons (fTup (faNil)) (faNil))))))) (fCall (c2 n cl .law_take) (faCons (fV 0) (faCons (fC (.int 5)) (faNil)))))) (sSeq (sIf (fT (fBin neG (fCall (c2 n cl .law_asked) (faCons (fV 5) (faCons (fCall (c2 n cl .law_around) (faCons (fV 0) (faCons (fV 1) (faNil)))) (faCons (fBin ixG (fLst (faCons (fBin ixG (fV 2) (fC (.int 0))) (faCons (fC .non) (faNil)))) (fCall (c2 n cl .law_take) (faCons (fV 0) (faCons (fC (.int 2)) (faNil))))) (faCons (fV 6) (faNil)))))) (fC (.str (Str.ofString "sheet."))))) (sRet (fC (.bl false))) (sNx)) (sIf (fAndT (fT (fChain ltG ltG (fC (.int 0)) (fV 5) (fC (.int 6)))) (fT (fBin neG (fCall (c2 n cl .law_asked) (faCons (fV 5) (faCons (fV 1) (faCons (fCall (c2 n cl .law_bent) (faCons (fV 0) (faCons (fV 1) (faCons (fV 2) (faNil))))) (faCons (fV 6) (faNil)))))) (fC (.str (Str.ofString "place.")))))) (sRet (fC (.bl false))) (sNx))))
theorem hn_sp2 (hc : cl .InvalidSheet ≠ cl .InvalidPlace) (S : Sheet r ps) (h : 50 ≤ n) {P : M → Prop} (I : Pre P k) {i q : Nat} (hi : i < 10) {z4 z6 : Option D} : HN P k (sp2 n cl) (spE k r ps q z4 (some (.int (i : Nat))) z6) fun ε => ∃ z4 z5 z6, ε = spE k r ps q z4 z5 z6 := by
  unfold sp2
  obtain ⟨s0, hs0, e0⟩ := first_spot S
  refine hn_set (Qa := fun _ => True) I (hf_pick (n := n) (l := [.non, .int 5, .str (Str.ofString "A"), .int (-1), .tup []]) (a := 5) (by omega) (fun m => rfl) rfl (by decide) (fun m => rfl) (fun m => rfl) fun _ _ => trivial) fun d _ => ?_
  show HN P k _ (spE k r ps q z4 (some (.int (i : Nat))) (some d)) _
  refine hn_if I (ht_f I (ne_same (hf_callA (P := fun l => ∃ v c d, l = [.int (i : Nat), v, c, d] ∧ NotSh v) (ha_cons (Qa := fun a => a = .int (i : Nat)) (hf_pure (fun m => rfl) rfl) fun a ha => ha_cons (Qa := NotSh) (hf_around (n := n) S (by omega) (fun m => rfl) (fun m => rfl)) fun v hv => ha_cons (Qa := fun _ => True) (hf_pick (n := n) (l := [spotD s0, .non]) (a := 2) (by omega) (fun m => x_lst (x_fc (x_bin (a := .lst ((spotsL ps).map spotD)) rfl rfl (e0 m)) rfl) (by simp)) rfl (by decide) (fun m => rfl) (fun m => rfl) fun _ _ => trivial) fun c _ => ha_cons (Qa := fun _ => True) (hf_pure (fun m => rfl) trivial) fun d _ => ha_nil ⟨v, c, d, by rw [ha], hv⟩) fun l hl => hd_asked_s hi (by omega) hl))) ?_
  refine hn_ifE ?_ ⟨z4, _, _, rfl⟩
  have hch : ∀ m, fT (fChain ltG ltG (fC (.int 0)) (fV 5) (fC (.int 6))) (spE k r ps q z4 (some (.int (i : Nat))) (some d)) m = some (decide ((0 : Int) < (i : Nat)) && decide (((i : Nat) : Int) < 6), m) := fun m => x_t (chain_lt 0 (i : Nat) 6 _ _ _ _ _ rfl rfl rfl)
  by_cases h06 : 0 < i ∧ i < 6
  · refine ht_and1 I (ht_pure I fun m _ => bt (hch m) (by rw [decide_eq_true (by omega), decide_eq_true (by omega)]; rfl)) (ht_f I (ne_same (hf_callA (P := fun l => ∃ c d, l = [.int (i : Nat), shD r ps, c, d] ∧ smD c = true ∧ placeB ps c = false) (ha_cons (Qa := fun a => a = .int (i : Nat)) (hf_pure (fun m => rfl) rfl) fun a ha => ha_cons (Qa := fun a => a = shD r ps) (hf_pure (fun m => rfl) rfl) fun v hv => ha_cons (Qa := fun c => smD c = true ∧ placeB ps c = false) (hf_callA (P := fun l => l = [.mr k, shD r ps, .lst ((spotsL ps).map spotD)]) (ha_cons (Qa := fun a => a = .mr k) (hf_pure (fun m => rfl) rfl) fun a ha => ha_cons (Qa := fun a => a = shD r ps) (hf_pure (fun m => rfl) rfl) fun b hb => ha_cons (Qa := fun a => a = .lst ((spotsL ps).map spotD)) (hf_pure (fun m => rfl) rfl) fun c hc => ha_nil (by rw [ha, hb, hc])) fun l hl => by subst hl; exact hd_bent S (by omega)) fun c hcc => ha_cons (Qa := fun _ => True) (hf_pure (fun m => rfl) trivial) fun d _ => ha_nil ⟨c, d, by rw [ha, hv], hcc⟩) fun l ⟨c, d, el, hv⟩ => ?_)))
    subst el
    exact hd_pure (fun m => asked_no_place hc h06.1 h06.2 (by omega) S.sh hv) rfl
  · exact ht_and0 (ht_pure I fun m _ => bt (hch m) (by
      by_cases h : 0 < i
      · have : ¬ i < 6 := fun z => h06 ⟨h, z⟩
        rw [decide_eq_false (p := ((i : Nat) : Int) < 6) (by omega)]; simp
      · rw [decide_eq_false (p := (0 : Int) < (i : Nat)) (by omega)]; rfl))
theorem finD_own {d : D} {m1 : M} {l : List D} (hb : Bags m) (hk : k < m.length) (hl : puresD l = true) (s : St k (m ++ [l]) m1) (hd : pureD d = true) (hdm : finR m.length m1 d = some d) : ∃ m', finD m.length d m1 = some (d, m') ∧ St k m m' := by
  obtain ⟨is, rfl⟩ := s
  have e : (m ++ [l]).set k (is.map .int) = m.set k (is.map .int) ++ [l] := by rw [List.set_append_left _ _ hk]
  have hb2 : Bags (m.set k (is.map .int)) := hb.st ⟨is, rfl⟩
  refine ⟨m.set k (is.map .int), ?_, is, rfl⟩
  unfold finD
  rw [e] at hdm ⊢
  have tk : (m.set k (is.map .int) ++ [l]).take m.length = m.set k (is.map .int) := List.take_left' (by simp)
  rw [if_neg (by simp), tk, if_pos (show (m.set k (is.map D.int)).all puresD = true from hb2.pure), hdm]
  rfl
def spotsF (n : Nat) (cl : Cid → Addr) : FD := fnD 3 7 (b_law_spots (c2 n cl) (nplc n))
theorem hd_spots (hc : cl .InvalidSheet ≠ cl .InvalidPlace) (S : Sheet r ps) (h : 60 ≤ n) (hb : Bags m) (hk : k < m.length) : ∃ m', spotsF n cl [.mr k, shD r ps, .lst ((spotsL ps).map spotD)] m = some (.bl true, m') ∧ St k m m' := by
  have dk := spots_dok S
  let zz : D := .tup [.str (Str.ofString "zz"), .tup []]
  let L2 : List D := (spotsL ps).map spotD ++ [zz]
  let P : M → Prop := fun m2 => IsBag k m2 ∧ pureM m2 = true ∧ m2[m.length]? = some L2
  have I : Pre P k := ⟨fun m h => h.1, fun m1 m2 h s => ⟨s.bag h.1, s.pure h.2.1, by rw [s.other (by omega)]; exact h.2.2⟩⟩
  have pL2 : puresD L2 = true := spots_pures _ _ rfl
  have p0 : P (m ++ [L2]) := by
    refine ⟨?_, ?_, by simp⟩
    · obtain ⟨is, e⟩ := hb.bag hk
      exact ⟨is, by rw [List.getElem?_append_left hk]; exact e⟩
    · have := hb.pure
      unfold pureM at this ⊢
      rw [List.all_append, this]
      show (true && (puresD L2 && true)) = true
      rw [pL2]; rfl
  have hl9 : ((spotsL ps).map spotD).length ≤ 900 := by
    have h1 := S.sh.spots_len
    have h2 := S.len
    rw [List.length_map]; omega
  have s1 : sOwnN 3 (fCallN (nplc n) (faCons (fV 1) (faNil))) [some (.mr k), some (shD r ps), some (.lst ((spotsL ps).map spotD)), none, none, none, none] m = some (.nx (spE k r ps m.length none none none) (m ++ [(spotsL ps).map spotD])) := by
    unfold sOwnN fCallN
    show ((nplc n [shD r ps] m).bind _) = _
    rw [evn_places S.sh (by omega) hb.pure]
    simp only [Option.bind_some]
    rw [if_pos ⟨hb.tups, spots_tups _⟩]
    rfl
  have s2 : fNotT (fTru (fCall (c2 n cl .law_same) (faCons (fV 3) (faCons (fV 2) (faNil))))) (spE k r ps m.length none none none) (m ++ [(spotsL ps).map spotD]) = some (false, m ++ [(spotsL ps).map spotD]) := by
    have := same_mr (k := 2) (n := n) (i := m.length) (l := (spotsL ps).map spotD) (m := m ++ [(spotsL ps).map spotD]) (by omega) (by simp) dk
    exact x_notT (x_tru (x_call2 rfl rfl this))
  have s3 : sExp (fApnd (fV 3) (fTup (faCons (fC (.str (Str.ofString "zz"))) (faCons (fTup (faNil)) (faNil))))) (spE k r ps m.length none none none) (m ++ [(spotsL ps).map spotD]) = some (.nx (spE k r ps m.length none none none) (m ++ [L2])) :=
    x_exp (d := .non) (apnd_end (x := zz) rfl rfl (by omega))
  have s4 : fNotT (fTru (fCall (c2 n cl .law_same) (faCons (fCall (c2 n cl .places) (faCons (fV 1) (faNil))) (faCons (fV 2) (faNil))))) (spE k r ps m.length none none none) (m ++ [L2]) = some (false, m ++ [L2]) :=
    x_notT (x_tru (x_call2 (x_call1 rfl (ev_places S.sh (n := n) (by omega) p0.2.1)) rfl (same_refl (n := n) (k := 3) (by omega) dk)))
  -- the first loop
  have l1 : ∃ ε' m1, sFor (fStepN (fV 2) (fCall (c2 n cl .law_take) (faCons (fV 0) (faCons (fC (.int 2)) (faNil)))) 2) (DL.stN 4) (sIf (fNotT (fTru (fCall (c2 n cl .law_same) (faCons (fCall (c2 n cl .part) (faCons (fV 1) (faCons (fV 4) (faNil)))) (faCons (fCall (c2 n cl .law_at) (faCons (fKGet knownG (faCons (fV 1) (faNil)) (fBin ixG (fV 4) (fC (.int 0)))) (faCons (fBin ixG (fV 4) (fC (.int 1))) (faNil)))) (faNil)))))) (sRet (fC (.bl false))) (sNx)) (spE k r ps m.length none none none) (m ++ [L2]) = some (.nx ε' m1) ∧ St k (m ++ [L2]) m1 ∧ ∃ z4 z5 z6, ε' = spE k r ps m.length z4 z5 z6 := by
    obtain ⟨d, m1, e1, st1, i, rfl, i0, i1⟩ := hf_take (n := n) (fa := fV 0) (fb := fC (.int 2)) (ε := spE k r ps m.length none none none) (k := k) (a := 2) (by omega) (by decide) (fun m => rfl) (fun m => rfl) (m ++ [L2]) p0.1
    have e2 : fStepN (fV 2) (fCall (c2 n cl .law_take) (faCons (fV 0) (faCons (fC (.int 2)) (faNil)))) 2 (spE k r ps m.length none none none) (m ++ [L2]) = some ((pickI ((spotsL ps).map spotD).length (some i) 2).filterMap (((spotsL ps).map spotD)[·]?), m1) := by
      unfold fStepN
      show ((some (D.lst ((spotsL ps).map spotD), m ++ [L2]) : Option (D × M)).bind _) = _
      simp only [Option.bind_some]
      have e1' : fCall (c2 n cl .law_take) (faCons (fV 0) (faCons (fC (.int 2)) (faNil))) (spE k r ps m.length none none none) (m ++ [L2]) = some (.int i, m1) := e1
      rw [e1']
      simp only [Option.bind_some]
      rw [if_pos (pick_lenB _ i i0 (by omega))]
    obtain ⟨ε', m2, e3, st2, r3⟩ := hn_loop (P := P) (st := DL.stN 4) (R := fun ε => ∃ z4 z5 z6, ε = spE k r ps m.length z4 z5 z6) I (body := sIf (fNotT (fTru (fCall (c2 n cl .law_same) (faCons (fCall (c2 n cl .part) (faCons (fV 1) (faCons (fV 4) (faNil)))) (faCons (fCall (c2 n cl .law_at) (faCons (fKGet knownG (faCons (fV 1) (faNil)) (fBin ixG (fV 4) (fC (.int 0)))) (faCons (fBin ixG (fV 4) (fC (.int 1))) (faNil)))) (faNil)))))) (sRet (fC (.bl false))) (sNx)) ((pickI ((spotsL ps).map spotD).length (some i) 2).filterMap (((spotsL ps).map spotD)[·]?)) (spE k r ps m.length none none none) ⟨_, _, _, rfl⟩ (fun d hd ε ⟨z4, z5, z6, e⟩ => by
      subst e
      refine ⟨spE k r ps m.length (some d) z5 z6, rfl, hn_ifE (ht_pure I fun m2 h2 => ?_) ⟨_, _, _, rfl⟩⟩
      obtain ⟨j, _, hj⟩ := List.mem_filterMap.mp hd
      obtain ⟨s, hs, rfl⟩ := List.mem_map.mp (List.mem_of_getElem? hj)
      obtain ⟨t, u, PS⟩ := spot_of S hs
      have T := tm_of (S.sh.tm _ PS.mem)
      have dku : dOk 9 u = true := dOk_at T (S.tms _ PS.mem).dok PS.at_
      refine x_notT (x := true) (x_tru (x_call2 (a := u) (x_call2 (b := spotD s) rfl rfl (ev_part S.sh (n := n) (by omega) PS (spot_sm S PS) (spot_place S PS))) (b := u) (x_call2 (a := t) (b := pD s.2) (x_kget S.sh rfl (x_bin rfl rfl rfl) PS.fe) (x_bin rfl rfl rfl) (ev_lat (n := n) (by omega) T (S.sh.smT PS.mem) PS.at_)) (same_refl (n := n) (k := 9) (by omega) dku)))) m1 (I.st _ _ p0 st1)
    refine ⟨ε', m2, ?_, st1.trans st2, r3⟩
    unfold sFor
    rw [e2]
    exact e3
  obtain ⟨ε1, m1, e1, st1, z4, z5, z6, rfl⟩ := l1
  have p1 := I.st _ _ p0 st1
  -- the second loop
  obtain ⟨ε2, m2, e2, st2, z4', z5', z6', rfl⟩ := hn_loop (P := P) (st := DL.stN 5) (R := fun ε => ∃ z4 z5 z6, ε = spE k r ps m.length z4 z5 z6) I (body := sp2 n cl) (rngD 0 10) (spE k r ps m.length z4 z5 z6) ⟨_, _, _, rfl⟩ (fun d hd ε ⟨z4, z5, z6, e⟩ => by
    subst e
    unfold rngD at hd
    obtain ⟨i, hi, rfl⟩ := List.mem_map.mp hd
    refine ⟨spE k r ps m.length z4 (some (.int (0 + (i : Int)))) z6, rfl, ?_⟩
    have : (0 + (i : Int)) = (i : Int) := by omega
    rw [this]
    exact hn_sp2 hc S (by omega) I (List.mem_range.mp hi)) m1 p1
  have p2 := I.st _ _ p1 st2
  obtain ⟨s0, hs0, e0⟩ := first_spot S
  -- the end
  have fin : HF k (fBin eqG (fCall (c2 n cl .law_asked) (faCons (fC (.int 5)) (faCons (fV 1) (faCons (fBin ixG (fV 2) (fC (.int 0))) (faCons (fCall (c2 n cl .law_around) (faCons (fV 0) (faCons (fV 1) (faNil)))) (faNil)))))) (fC (.str (Str.ofString "sheet.")))) (spE k r ps m.length z4' z5' z6') fun d => d = .bl true := by
    refine hf_bin (Qa := fun d => d = .str (Str.ofString "sheet.")) (hf_callA (P := fun l => ∃ d, l = [.int ((5 : Nat) : Int), shD r ps, spotD s0, d] ∧ NotSh d) (ha_cons (Qa := fun a => a = .int 5) (hf_pure (fun m => rfl) rfl) fun a ha => ha_cons (Qa := fun a => a = shD r ps) (hf_pure (fun m => rfl) rfl) fun v hv => ha_cons (Qa := fun a => a = spotD s0) (hf_pure (fun m => x_bin (a := .lst ((spotsL ps).map spotD)) rfl rfl (e0 m)) rfl) fun c hcc => ha_cons (Qa := NotSh) (hf_around (n := n) S (by omega) (fun m => rfl) (fun m => rfl)) fun d hd => ha_nil ⟨d, by rw [ha, hv, hcc]; rfl, hd⟩) fun l ⟨d, el, hd⟩ => ?_) fun a ha => ?_
    · subst el
      exact hd_pure (fun m => asked_third (by omega) S hs0 hd) rfl
    · subst ha
      exact hf_pure (fun m => rfl) fun m => ⟨.bl true, (eqG_str _ _ m).trans (by simp), rfl⟩
  obtain ⟨d, m3, e3, st3, rfl⟩ := fin m2 p2.1
  have whole : b_law_spots (c2 n cl) (nplc n) [some (.mr k), some (shD r ps), some (.lst ((spotsL ps).map spotD)), none, none, none, none] m = some (.rt (.bl true) m3) := by
    unfold b_law_spots
    refine x_seq s1 (x_seq (x_ifF s2 x_nx) (x_seq s3 (x_seq (x_ifF s4 x_nx) (x_seq e1 (x_seq ?_ (x_ret e3))))))
    unfold sFor
    rw [x_rng1 (k := 10) rfl (by decide)]
    exact e2
  obtain ⟨m', ef, st⟩ := finD_own (d := .bl true) hb hk pL2 ((st1.trans st2).trans st3) rfl rfl
  refine ⟨m', ?_, st⟩
  unfold spotsF fnD
  rw [if_pos (by rfl)]
  show ((b_law_spots (c2 n cl) (nplc n) [some (.mr k), some (shD r ps), some (.lst ((spotsL ps).map spotD)), none, none, none, none] m).bind _) = _
  rw [whole]
  exact ef
end
end KK
end
section
set_option Elab.async false
set_option linter.all false
set_option maxRecDepth 100000
set_option maxHeartbeats 4000000
namespace KK
open PySem PySem.Spec PyProof.Rows L2 DL
/-! ### parts of terms that are ones -/
theorem way_in {p : D → Bool} {x y z : D} (h : wayB p (.tup [x, y, z]) = true) : p z = true := by
  have h : (textB x && (bitsB y 0 400 && p z)) = true := h
  rw [Bool.and_eq_true, Bool.and_eq_true] at h
  exact h.2.2
theorem tw_parts {k : Nat} {t p : D} (h : tw (k + 1) t = true) (hp : p ∈ partsD t) : tw k p = true := by
  have T := tm_of h
  cases T with
  | leaf hw => rw [pd_leaf _ hw] at hp; cases hp
  | ref => cases hp
  | row hh =>
    rw [pd_row] at hp
    rw [tw_row] at h
    exact List.all_eq_true.mp h p hp
  | either hh =>
    rw [pd_either] at hp
    rw [tw_either, Bool.and_eq_true] at h
    obtain ⟨q, hq, rfl⟩ := List.mem_map.mp hp
    exact way_in (List.all_eq_true.mp h.1 _ (List.mem_map.mpr ⟨q, hq, rfl⟩))
  | two hw hx hy =>
    rw [pd_two _ _ hw] at hp
    rw [tw_two _ _ _ hw, Bool.and_eq_true] at h
    simp at hp
    rcases hp with rfl | rfl
    · exact h.1
    · exact h.2
  | one hw hy =>
    rw [pd_one _ _ hw] at hp
    rw [tw_one _ _ _ hw, Bool.and_eq_true] at h
    simp at hp
    subst hp
    exact h.2
theorem tw_at : ∀ {q : List Int} {k : Nat} {t u : D}, tw (k + q.length) t = true → atD t q = some u → tw k u = true
  | [], k, t, u, h, ha => by cases ha; exact h
  | i :: q, k, t, u, h, ha => by
    obtain ⟨hi, p, e3, hap⟩ := at_cons (k := 0) ha
    exact tw_at (tw_parts (k := k + q.length) h (List.mem_of_getElem? e3)) hap
theorem sm_at : ∀ {q : List Int} {j : Nat} {t u : D}, Tm j t → smD t = true → atD t q = some u → smD u = true
  | [], j, t, u, T, h, ha => by cases ha; exact h
  | i :: q, j, t, u, T, h, ha => by
    obtain ⟨hi, p, e3, hap⟩ := at_cons (k := 0) ha
    have hm := List.mem_of_getElem? e3
    cases j with
    | zero => cases T
    | succ j => exact sm_at (tm_parts T p hm) ((sm_parts T h).2 p hm) hap
section
variable {r : Str} {ps : List (Str × D)} {n k : Nat} {m : M} {cl : Cid → Addr} {nm : Str} {t u new : D} {q : List Int}
/-! ### a term laid into a sheet -/
theorem laid_names : (laidL ps nm q new).map Prod.fst = ps.map Prod.fst := by
  unfold laidL
  rw [List.map_map]
  apply List.map_congr_left
  intro p _
  show (if p.1 = nm then (p.1, putD p.2 q new) else p).1 = p.1
  split <;> rfl
theorem laid_len : (laidL ps nm q new).length = ps.length := by unfold laidL; rw [List.length_map]
theorem laid_mem (S : Sh r ps) (hf : findE ps nm = some t) {p : Str × D} (hp : p ∈ laidL ps nm q new) : p = (nm, putD t q new) ∨ p ∈ ps := by
  obtain ⟨x, hx, rfl⟩ := List.mem_map.mp hp
  by_cases h : x.1 = nm
  · left
    rw [if_pos h, findE_same S.nd hf hx h, h]
  · right
    rw [if_neg h]
    exact hx
theorem laid_has (hf : findE ps nm = some t) : (nm, putD t q new) ∈ laidL ps nm q new := List.mem_map.mpr ⟨(nm, t), findE_mem hf, if_pos rfl⟩
theorem ent_sm (S : Sh r ps) (hf : findE ps nm = some t) : smD (.str nm) = true := sm_mem (sm_mem S.smE (List.mem_map.mpr ⟨_, findE_mem hf, rfl⟩)) (by simp [entD])
theorem laid_sm (S : Sh r ps) (hf : findE ps nm = some t) (hs : smD (putD t q new) = true) : smD (.tup ((laidL ps nm q new).map entD)) = true := by
  refine sm_tupI (by rw [List.length_map, laid_len]; have := S.len; omega) fun d hd => ?_
  obtain ⟨p, hp, rfl⟩ := List.mem_map.mp hd
  rcases laid_mem S hf hp with rfl | hp
  · refine sm_tupI (by simp) fun x hx => ?_
    simp at hx
    rcases hx with rfl | rfl
    · exact ent_sm S hf
    · exact hs
  · exact sm_mem S.smE (List.mem_map.mpr ⟨p, hp, rfl⟩)
theorem laid_ne (hf : findE ps nm = some t) : laidL ps nm q new ≠ [] := fun e => by
  have := laid_has (q := q) (new := new) hf
  rw [e] at this; cases this
theorem wrong_tw (h : wrongGood new = true) : (∀ j ≤ 12, tw j new = false) ∧ smD new = true := by
  unfold wrongGood at h
  rw [Bool.and_eq_true] at h
  refine ⟨fun j hj => ?_, h.2⟩
  have := List.all_eq_true.mp h.1 j (List.mem_range.mpr (by omega))
  simpa using this
theorem laid_bad (S : Sh r ps) (hf : findE ps nm = some t) (ha : atD t q = some u) (h : wrongGood new = true) : NotSh (shD r (laidL ps nm q new)) := by
  obtain ⟨h1, h2⟩ := wrong_tw h
  have T := tm_of (S.tm _ (findE_mem hf))
  have hs := sm_put (new := new) T (S.smT (findE_mem hf)) h2 ha
  refine n_bad (fun e => laid_ne (q := q) (new := new) hf (List.map_eq_nil_iff.mp e)) (laid_sm S hf hs) ?_
  cases e : ((laidL ps nm q new).map entD).all entryB with
  | false => rfl
  | true =>
    have h3 := List.all_eq_true.mp e _ (List.mem_map.mpr ⟨_, laid_has hf, rfl⟩)
    have h4 : (nameB (.str nm) && tw 12 (putD t q new)) = true := h3
    rw [put_bad T (by omega) ha h1] at h4
    simp at h4
theorem laid_strange (S : Sheet r ps) (hf : findE ps nm = some t) (ha : atD t q = some u) (hq : q.length ≤ 2) {s : Str} (h1 : nameB (.str s) = true) (h2 : smD (.str s) = true) (h3 : s ∉ ps.map Prod.fst) : NotSh (shD r (laidL ps nm q (.tup [.str "ref", .str s]))) := by
  have hm := findE_mem hf
  have T := tm_of (S.sh.tm _ hm)
  have sr : smD (.tup [.str "ref", .str s]) = true := sm_tupI (by simp) fun d hd => by
    simp at hd
    rcases hd with rfl | rfl
    · decide +kernel
    · exact h2
  have hs := sm_put (new := .tup [.str "ref", .str s]) T (S.sh.smT hm) sr ha
  obtain ⟨p1, p2⟩ := put_ok (k := 12) (nm := s) (S.sh.tm _ hm) (show q.length < 12 by omega) ha h1
  have E : Ents (laidL ps nm q (.tup [.str "ref", .str s])) := by
    refine ⟨laid_ne hf, laid_sm S.sh hf hs, List.all_eq_true.mpr fun d hd => ?_, fun p hp => ?_, by rw [laid_len]; exact S.sh.len⟩
    · obtain ⟨p, hp, rfl⟩ := List.mem_map.mp hd
      rcases laid_mem S.sh hf hp with rfl | hp
      · show (nameB (.str nm) && tw 12 (putD t q _)) = true
        rw [S.sh.nm _ hm, p1]; rfl
      · exact List.all_eq_true.mp S.sh.ents _ (List.mem_map.mpr ⟨p, hp, rfl⟩)
    · rcases laid_mem S.sh hf hp with rfl | hp
      · exact Nat.le_trans (refs_few (few_put T (S.tms _ hm).few rfl ha)) (by decide)
      · exact S.sh.rc p hp
  exact n_ref E S.rsm (laid_has hf) p2 (by rw [laid_names]; exact h3)
theorem right_good (h : rightGood new = true) : tw 12 new = true ∧ smD new = true ∧ refsL 12 new = [] ∧ (pathsL 12 new).length ≤ 300 := by
  unfold rightGood at h
  rw [Bool.and_eq_true, Bool.and_eq_true, Bool.and_eq_true] at h
  exact ⟨h.1, h.2.1, List.isEmpty_iff.mp h.2.2.1, of_decide_eq_true h.2.2.2⟩
theorem put_nil : putD t [] new = new := by unfold putD; rfl
theorem laid_right (S : Sh r ps) (hf : findE ps nm = some t) (h : rightGood new = true) : Sh r (laidL ps nm [] new) := by
  obtain ⟨h1, h2, h3, h4⟩ := right_good h
  have hm := findE_mem hf
  have el : ∀ p ∈ laidL ps nm [] new, p = (nm, new) ∨ p ∈ ps := fun p hp => by
    have := laid_mem S hf hp
    rwa [put_nil] at this
  refine ⟨laid_ne hf, by rw [laid_len]; exact S.len, fun p hp => ?_, fun p hp => ?_, ?_, by rw [laid_names]; exact S.asc, by rw [laid_names]; exact S.nd, by rw [laid_names]; exact S.root, fun p hp s hs => ?_, fun p hp => ?_, fun p hp => ?_⟩
  · rcases el p hp with rfl | hp
    · exact S.nm (nm, t) hm
    · exact S.nm p hp
  · rcases el p hp with rfl | hp
    · exact h1
    · exact S.tm p hp
  · refine sm_tupI (by simp) fun x hx => ?_
    simp at hx
    rcases hx with rfl | rfl
    · exact sm_mem S.sm (by simp)
    · exact laid_sm S hf (by rw [put_nil]; exact h2)
  · rcases el p hp with rfl | hp
    · rw [show refsL 12 (nm, new).2 = [] from h3] at hs
      cases hs
    · rw [laid_names]; exact S.refs p hp s hs
  · rcases el p hp with rfl | hp
    · rw [show refsL 12 (nm, new).2 = [] from h3]; simp
    · exact S.rc p hp
  · rcases el p hp with rfl | hp
    · exact h4
    · exact S.pc p hp
end
end KK
end
section
set_option Elab.async false
set_option linter.all false
set_option maxRecDepth 100000
set_option maxHeartbeats 4000000
namespace KK
open PySem PySem.Spec PyProof.Rows L2 DL
section
variable {r : Str} {ps : List (Str × D)} {n k : Nat} {m : M} {cl : Cid → Addr} {nm : Str} {t u new : D} {q : List Int}
/-! ### the law's turn -/
theorem ev_is_sheet {v : D} {b : Bool} (h : sheetOf n v b) : F (n + 1) .is_sheet [v] m = some (.bl b, m) := Fr_is_sheet (x_ret (x_call1 rfl (h m)))
theorem ev_is_sheet_no {v : D} (hn : 48 ≤ n) (h : NotSh v) : F n .is_sheet [v] m = some (.bl false, m) := by
  obtain ⟨j, rfl, hj⟩ := pred (k := 47) hn
  exact ev_is_sheet (h j hj)
theorem ev_is_sheet_ok (hn : 48 ≤ n) (S : Sh r ps) : F n .is_sheet [shD r ps] m = some (.bl true, m) := by
  obtain ⟨j, rfl, hj⟩ := pred (k := 47) hn
  exact ev_is_sheet fun m => S.ok hj
theorem isnot_same {b : Bool} {f : DL.F} {ε : Ev} (h : HF k f ε fun d => d = .bl b) : HF k (fBin isNotG f (fC (.bl b))) ε fun d => d = .bl false := by
  refine hf_bin h fun a ha => ?_
  subst ha
  exact hf_pure (d := .bl b) (fun m => rfl) fun m => ⟨.bl false, by cases b <;> rfl, rfl⟩
abbrev lE (k : Nat) (wd c : D) (z4 z5 z6 z7 z8 z9 : Option D) : Ev := [none, some wd, some c, some (.mr k), z4, z5, z6, z7, z8, z9]
def strangeS : List Str := [Str.ofString "zz" ++ Str.ofString "a", Str.ofString "zz" ++ Str.ofString "b", Str.ofString "zz" ++ Str.ofString "c"]
theorem strange_ok : strangeS.all (fun s => nameB (.str s) && (smD (.str s) && decide (s.cps.toList.head? = some 122))) = true := by decide +kernel
def lRest (c : Fid → FD) : FS := (sSeq (sSet 4 (fCall (c .law_loose_sheet) (faCons (fV 3) (faNil)))) (sSeq (sSet 5 (fCall (c .law_places) (faCons (fV 4) (faNil)))) (sSeq (sSet 6 (fBin ixG (fV 5) (fCall (c .law_take) (faCons (fV 3) (faCons (fApp lenG (f1 (fV 5))) (faNil)))))) (sSeq (sIf (fOrT (fT (fBin isNotG (fCall (c .is_sheet) (faCons (fV 4) (faNil))) (fC (.bl true)))) (fT (fBin isNotG (fCall (c .is_sheet) (faCons (fCall (c .law_around) (faCons (fV 3) (faCons (fV 4) (faNil)))) (faNil))) (fC (.bl false))))) (sRet (fC (.bl false))) (sNx)) (sSeq (sIf (fOrT (fT (fBin isNotG (fCall (c .is_term) (faCons (fCall (c .law_at) (faCons (fKGet knownG (faCons (fV 4) (faNil)) (fBin ixG (fV 6) (fC (.int 0)))) (faCons (fBin ixG (fV 6) (fC (.int 1))) (faNil)))) (faNil))) (fC (.bl true)))) (fNotT (fTru (fCall (c .law_spots) (faCons (fV 3) (faCons (fV 4) (faCons (fV 5) (faNil)))))))) (sRet (fC (.bl false))) (sNx)) (sSeq (sSet 7 (fCall (c .law_wrong) (faCons (fV 3) (faNil)))) (sSeq (sIf (fOrT (fT (fBin isNotG (fCall (c .is_term) (faCons (fV 7) (faNil))) (fC (.bl false)))) (fT (fBin isNotG (fCall (c .is_sheet) (faCons (fCall (c .law_laid) (faCons (fV 4) (faCons (fV 6) (faCons (fV 7) (faNil))))) (faNil))) (fC (.bl false))))) (sRet (fC (.bl false))) (sNx)) (sSeq (sSet 8 (fCall (c .law_right) (faCons (fV 3) (faNil)))) (sSeq (sIf (fOrT (fT (fBin isNotG (fCall (c .is_term) (faCons (fV 8) (faNil))) (fC (.bl true)))) (fT (fBin isNotG (fCall (c .is_sheet) (faCons (fCall (c .law_laid) (faCons (fV 4) (faCons (fTup (faCons (fBin ixG (fV 6) (fC (.int 0))) (faCons (fTup (faNil)) (faNil)))) (faCons (fV 8) (faNil))))) (faNil))) (fC (.bl true))))) (sRet (fC (.bl false))) (sNx)) (sSeq (sSet 9 (fTup (faCons (fC (.str (Str.ofString "ref"))) (faCons (fBin addG (fC (.str (Str.ofString "zz"))) (fBin ixG (fC (.str (Str.ofString "abc"))) (fCall (c .law_take) (faCons (fV 3) (faCons (fC (.int 3)) (faNil)))))) (faNil))))) (sSeq (sIf (fOrT (fT (fBin isNotG (fCall (c .is_term) (faCons (fV 9) (faNil))) (fC (.bl true)))) (fT (fBin isNotG (fCall (c .is_sheet) (faCons (fCall (c .law_laid) (faCons (fV 4) (faCons (fV 6) (faCons (fV 9) (faNil))))) (faNil))) (fC (.bl false))))) (sRet (fC (.bl false))) (sNx)) (sIf (fOrT (fT (fBin isNotG (fCall (c .is_sheet) (faCons (fV 4) (faNil))) (fC (.bl true)))) (fT (fBin isNotG (fCall (c .is_term) (faCons (fV 7) (faNil))) (fC (.bl false))))) (sRet (fC (.bl false))) (sNx)))))))))))))
theorem hn_rest (hc : cl .InvalidSheet ≠ cl .InvalidPlace) (h : 60 ≤ n) {wd c : D} {z4 z5 z6 z7 z8 z9 : Option D} : HN (fun m => Bags m ∧ k < m.length) k (lRest (c3 n cl)) (lE k wd c z4 z5 z6 z7 z8 z9) fun ε => ∃ z2 z3 z4 z5 z6 z7 z8 z9, ε = [none, some wd, z2, z3, z4, z5, z6, z7, z8, z9] := by
  have I : Pre (fun m => Bags m ∧ k < m.length) k := ⟨fun m h => h.1.bag h.2, fun m m' h s => ⟨h.1.st s, by rw [s.len]; exact h.2⟩⟩
  unfold lRest
  refine hn_set (Qa := fun d => ∃ r ps, d = shD r ps ∧ Sheet r ps) I (hf_call1 (fun m => rfl) (hd_sheet (n := n) (by omega))) fun d ⟨r, ps, e, S⟩ => ?_
  subst e
  show HN _ k _ (lE k wd c (some (shD r ps)) z5 z6 z7 z8 z9) _
  refine hn_set (Qa := fun d => d = .lst ((spotsL ps).map spotD)) I (hf_pure (fun m => x_call1 rfl (ev_lplaces S.sh (n := n) (by omega))) rfl) fun d e => ?_
  subst e
  show HN _ k _ (lE k wd c (some (shD r ps)) (some (.lst ((spotsL ps).map spotD))) z6 z7 z8 z9) _
  have hne := spots_ne S
  have hlen : ∀ m, fApp lenG (f1 (fV 5)) (lE k wd c (some (shD r ps)) (some (.lst ((spotsL ps).map spotD))) z6 z7 z8 z9) m = some (.int ((spotsL ps).length : Nat), m) := fun m => by
    have : fApp lenG (f1 (fV 5)) (lE k wd c (some (shD r ps)) (some (.lst ((spotsL ps).map spotD))) z6 z7 z8 z9) m = some (.int (((spotsL ps).map spotD).length : Nat), m) := rfl
    rw [List.length_map] at this; exact this
  refine hn_set (Qa := fun x => ∃ s ∈ spotsL ps, x = spotD s) I (hf_pick (n := n) (l := (spotsL ps).map spotD) (a := ((spotsL ps).length : Int)) (by omega) (fun m => rfl) (by simp) (by have := List.length_pos_iff.mpr hne; omega) (fun m => rfl) hlen fun d hd => ?_) fun d ⟨s, hs, e⟩ => ?_
  · obtain ⟨s, hs, rfl⟩ := List.mem_map.mp hd
    exact ⟨s, hs, rfl⟩
  subst e
  show HN _ k _ (lE k wd c (some (shD r ps)) (some (.lst ((spotsL ps).map spotD))) (some (spotD s)) z7 z8 z9) _
  obtain ⟨t, u, PS⟩ := spot_of S hs
  have T := tm_of (S.sh.tm _ PS.mem)
  have twu : tw 12 u = true := tw_at ((S.tms _ PS.mem).tw (12 + s.2.length) (by omega)) PS.at_
  have smu : smD u = true := sm_at T (S.sh.smT PS.mem) PS.at_
  refine hn_if I (ht_or I (ht_f I (isnot_same (hf_pure (fun m => x_call1 rfl (ev_is_sheet_ok (n := n) (by omega) S.sh)) rfl))) (ht_f I (isnot_same (hf_callA (P := fun l => ∃ v, l = [v] ∧ NotSh v) (ha_cons (hf_around (n := n) S (by omega) (fun m => rfl) (fun m => rfl)) fun v hv => ha_nil ⟨v, rfl, hv⟩) fun l ⟨v, e, hv⟩ => by
    subst e
    exact hd_pure (fun m => ev_is_sheet_no (n := n) (by omega) hv) rfl)))) ?_
  refine hn_if I (ht_or I (ht_f I (isnot_same (hf_pure (fun m => x_call1 (x_call2 (a := t) (b := pD s.2) (x_kget S.sh rfl (x_bin rfl rfl rfl) PS.fe) (x_bin rfl rfl rfl) (ev_lat (n := n) (by omega) T (S.sh.smT PS.mem) PS.at_)) ((ev_term (n := n) (by omega) u smu m).trans (by rw [twu]))) rfl))) fun m hm => ?_) ?_
  · obtain ⟨m', e, st⟩ := hd_spots (n := n) hc S h hm.1 hm.2
    exact ⟨m', x_notT (x := true) (x_tru (x_call3 (a := .mr k) (b := shD r ps) (e := .lst ((spotsL ps).map spotD)) rfl rfl rfl e)), st⟩
  refine hn_set (Qa := fun d => wrongGood d = true) I (hf_call1 (fun m => rfl) (hd_wrong (n := n) (by omega))) fun wr hw => ?_
  show HN _ k _ (lE k wd c (some (shD r ps)) (some (.lst ((spotsL ps).map spotD))) (some (spotD s)) (some wr) z8 z9) _
  obtain ⟨w1, w2⟩ := wrong_tw hw
  have laid : ∀ {new : D} {q : List Int} {v : D} {m : M}, atD t q = some v → q.length ≤ 2 → F n .law_laid [shD r ps, spotD (s.1, q), new] m = some (shD r (laidL ps s.1 q new), m) := fun {new q v m} ha hq => ev_laid S.sh (n := n) (by omega) PS.fe ha (by omega)
  refine hn_if I (ht_or I (ht_f I (isnot_same (hf_pure (fun m => x_call1 rfl ((ev_term (n := n) (by omega) wr w2 m).trans (by rw [w1 12 (by omega)]))) rfl))) (ht_f I (isnot_same (hf_pure (fun m => x_call1 (x_call3 (b := spotD (s.1, s.2)) rfl rfl rfl (laid PS.at_ PS.len)) (ev_is_sheet_no (n := n) (by omega) (laid_bad S.sh PS.fe PS.at_ hw))) rfl)))) ?_
  refine hn_set (Qa := fun d => rightGood d = true) I (hf_call1 (fun m => rfl) (hd_right (n := n) (by omega))) fun rt hr => ?_
  show HN _ k _ (lE k wd c (some (shD r ps)) (some (.lst ((spotsL ps).map spotD))) (some (spotD s)) (some wr) (some rt) z9) _
  obtain ⟨r1, r2, _, _⟩ := right_good hr
  refine hn_if I (ht_or I (ht_f I (isnot_same (hf_pure (fun m => x_call1 rfl ((ev_term (n := n) (by omega) rt r2 m).trans (by rw [r1]))) rfl))) (ht_f I (isnot_same (hf_pure (fun m => x_call1 (x_call3 (b := spotD (s.1, [])) rfl (x_tup2 (x_bin rfl rfl rfl) (by
    show (if ([] : List D).length ≤ sizeLine then some (D.tup [], m) else none) = _
    rw [if_pos (sz1000 (by simp))]; rfl)) rfl (laid (q := []) (v := t) rfl (by simp))) (ev_is_sheet_ok (n := n) (by omega) (laid_right S.sh PS.fe hr))) rfl)))) ?_
  refine hn_set (Qa := fun d => ∃ z ∈ strangeS, d = .tup [.str "ref", .str z]) I (hf_tup2 (Qa := fun d => d = .str "ref") (hf_pure (fun m => rfl) rfl) fun a ha => hf_mono (Qa := fun d => ∃ z ∈ strangeS, d = .str z) (hf_bin (Qa := fun d => d = .str (Str.ofString "zz")) (hf_pure (fun m => rfl) rfl) fun b hb => hf_mono (Qa := fun d => ∃ z : Str, (Str.ofString "zz" ++ z) ∈ strangeS ∧ d = .str z ∧ ∀ m, addG (.str (Str.ofString "zz")) (.str z) m = some (.str (Str.ofString "zz" ++ z))) (hf_bin (Qa := fun d => d = .str (Str.ofString "abc")) (hf_pure (fun m => rfl) rfl) fun b hb => hf_mono (hf_take (n := n) (a := 3) (by omega) (by decide) (fun m => rfl) (fun m => rfl)) fun d ⟨z, e, z0, z1⟩ m => ?_) fun d ⟨z, hz, e, hadd⟩ m => ⟨_, by rw [hb, e]; exact hadd m, _, hz, rfl⟩) fun d ⟨z, hz, e⟩ => ⟨z, hz, by rw [ha, e]⟩) fun st ⟨z, hz, e⟩ => ?_
  · subst e hb
    have : z = 0 ∨ z = 1 ∨ z = 2 := by omega
    rcases this with rfl | rfl | rfl
    · exact ⟨.str (Str.ofString "a"), rfl, Str.ofString "a", by simp [strangeS], rfl, fun m => rfl⟩
    · exact ⟨.str (Str.ofString "b"), rfl, Str.ofString "b", by simp [strangeS], rfl, fun m => rfl⟩
    · exact ⟨.str (Str.ofString "c"), rfl, Str.ofString "c", by simp [strangeS], rfl, fun m => rfl⟩
  subst e
  show HN _ k _ (lE k wd c (some (shD r ps)) (some (.lst ((spotsL ps).map spotD))) (some (spotD s)) (some wr) (some rt) (some (.tup [.str "ref", .str z]))) _
  have sk := List.all_eq_true.mp strange_ok z hz
  rw [Bool.and_eq_true, Bool.and_eq_true] at sk
  have zno : z ∉ ps.map Prod.fst := by
    have hh := of_decide_eq_true sk.2.2
    cases e : z.cps.toList with
    | nil => rw [e] at hh; cases hh
    | cons c l =>
      rw [e] at hh
      cases hh
      exact high_no S.nms e (.inl (by decide))
  have sms : smD (.tup [.str "ref", .str z]) = true := sm_tupI (by simp) fun d hd => by
    simp at hd
    rcases hd with rfl | rfl
    · decide +kernel
    · exact sk.2.1
  refine hn_if I (ht_or I (ht_f I (isnot_same (hf_pure (fun m => x_call1 rfl ((ev_term (n := n) (by omega) _ sms m).trans (by rw [tw_ref, sk.1]))) rfl))) (ht_f I (isnot_same (hf_pure (fun m => x_call1 (x_call3 (b := spotD (s.1, s.2)) rfl rfl rfl (laid PS.at_ PS.len)) (ev_is_sheet_no (n := n) (by omega) (laid_strange S PS.fe PS.at_ PS.len sk.1 sk.2.1 zno))) rfl)))) ?_
  exact hn_ifE (ht_or I (ht_f I (isnot_same (hf_pure (fun m => x_call1 rfl (ev_is_sheet_ok (n := n) (by omega) S.sh)) rfl))) (ht_f I (isnot_same (hf_pure (fun m => x_call1 rfl ((ev_term (n := n) (by omega) wr w2 m).trans (by rw [w1 12 (by omega)]))) rfl)))) ⟨_, _, _, _, _, _, _, _, rfl⟩
theorem law_loop (hc : cl .InvalidSheet ≠ cl .InvalidPlace) (h : 60 ≤ n) {wd : D} : ∀ (l : List Int) (m : M) (z2 z3 z4 z5 z6 z7 z8 z9 : Option D), Bags m → ∃ ε' m', loopD (DL.stN 2) (l_law (c3 n cl) (nbag n)) (l.map .int) [none, some wd, z2, z3, z4, z5, z6, z7, z8, z9] m = some (.nx ε' m')
  | [], m, z2, z3, z4, z5, z6, z7, z8, z9, hb => ⟨_, m, rfl⟩
  | i :: l, m, z2, z3, z4, z5, z6, z7, z8, z9, hb => by
    obtain ⟨is, eb⟩ := ev_bag (n := n) (m := m) hb.pure i
    have hb2 := hb.app is
    have s1 : sOwnN 3 (fCallN (nbag n) (faCons (fV 2) (faCons (fC (.int 160)) (faNil)))) [none, some wd, some (.int i), z3, z4, z5, z6, z7, z8, z9] m = some (.nx (lE m.length wd (.int i) z4 z5 z6 z7 z8 z9) (m ++ [is.map .int])) := by
      unfold sOwnN fCallN
      show ((nbag n [.int i, .int 160] m).bind _) = _
      rw [eb]
      simp only [Option.bind_some]
      rw [if_pos ⟨hb.tups, by
        have := (Bags.tups (m := [is.map .int]) ⟨[is], rfl⟩)
        simpa using this⟩]
      rfl
    obtain ⟨ε1, m1, e1, st, z2', z3', z4', z5', z6', z7', z8', z9', rfl⟩ := hn_rest (n := n) (cl := cl) (k := m.length) (wd := wd) (c := .int i) (z4 := z4) (z5 := z5) (z6 := z6) (z7 := z7) (z8 := z8) (z9 := z9) hc h (m ++ [is.map .int]) ⟨hb2, by simp⟩
    obtain ⟨ε2, m2, e2⟩ := law_loop hc h (wd := wd) l m1 z2' z3' z4' z5' z6' z7' z8' z9' (hb2.st st)
    refine ⟨ε2, m2, ?_⟩
    rw [List.map_cons]
    unfold loopD
    show ((l_law (c3 n cl) (nbag n) [none, some wd, some (.int i), z3, z4, z5, z6, z7, z8, z9] m).bind _) = _
    have : l_law (c3 n cl) (nbag n) [none, some wd, some (.int i), z3, z4, z5, z6, z7, z8, z9] m = some (.nx [none, some wd, z2', z3', z4', z5', z6', z7', z8', z9'] m1) := x_seq s1 e1
    rw [this]
    exact e2
end
end KK
end
section
set_option Elab.async false
set_option linter.all false
set_option maxRecDepth 100000
set_option maxHeartbeats 4000000
namespace KK
open PySem PySem.Spec PyProof.Rows L2 DL
/-! ### the wide sheet -/
def wideT : D := .tup [.str (Str.ofString "row"), .tup (List.replicate 34 (.tup [.str (Str.ofString "times"), .int 1, .tup [.str (Str.ofString "bits"), .str (Str.ofString "1")]]))]
def widePs : List (Str × D) := [(Str.ofString "w", wideT)]
def wideD : D := ((w_law [] []).map (·.1)).getD .non
theorem wide_is : wideD = shD (Str.ofString "w") widePs := rfl
theorem wide_sh : Sh (Str.ofString "w") widePs := by
  have one : ∀ {P : Str × D → Prop}, P (Str.ofString "w", wideT) → ∀ p ∈ widePs, P p := fun h p hp => by rw [List.mem_singleton.mp hp]; exact h
  exact ⟨by simp [widePs], by simp [widePs], one (by decide +kernel), one (by decide +kernel), by decide +kernel, by decide +kernel, by simp [widePs], by simp [widePs], one (fun s hs => by
    have : refsL 12 wideT = [] := by decide +kernel
    rw [show refsL 12 (Str.ofString "w", wideT).2 = [] from this] at hs
    cases hs), one (by decide +kernel), one (by decide +kernel)⟩
theorem wide_ok : dOk 3 (.lst ((spotsL widePs).map spotD)) = true := by decide +kernel
theorem m1 : ∀ ε, w_law ε [] = some (wideD, []) := fun _ => rfl
theorem m2n {n : Nat} {cl : Cid → Addr} {wd : D} {r : Str} {ps : List (Str × D)} (h : 60 ≤ n) (e : wd = shD r ps) (S : Sh r ps) (hd : dOk 3 (.lst ((spotsL ps).map spotD)) = true) : t_law (c3 n cl) [none, some wd, none, none, none, none, none, none, none, none] [] = some (false, []) := by
  have e1 : F n .places [wd] [] = some (.lst ((spotsL ps).map spotD), []) := by rw [e]; exact ev_places S h rfl
  have e2 : F n .law_places [wd] [] = some (.lst ((spotsL ps).map spotD), []) := by rw [e]; exact ev_lplaces S (by omega)
  exact x_notT (x := true) (x_tru (x_call2 (x_call1 rfl e1) (x_call1 rfl e2) (same_refl (n := n) (k := 3) (by omega) hd)))
theorem m2 : ∀ cl, t_law (c3 60 cl) [none, some wideD, none, none, none, none, none, none, none, none] [] = some (false, []) := fun cl => m2n (n := 60) (Nat.le_refl _) wide_is wide_sh wide_ok
theorem m3 : ∀ cl : Cid → Addr, cl .InvalidSheet ≠ cl .InvalidPlace → ∀ ns : List Int, ns.length ≤ 63 → ∃ ε' m', loopD (DL.stN 2) (l_law (c3 60 cl) (nbag 60)) (cells ns) [none, some wideD, none, none, none, none, none, none, none, none] [] = some (.nx ε' m') := fun cl hc ns _ => by
  have e : ∃ l : List Int, cells ns = l.map .int := by
    unfold cells DL.cutD
    rw [show ns.map D.int ++ [.int 0] = (ns ++ [0]).map .int by simp]
    exact ⟨_, by rw [List.map_take, List.map_drop]⟩
  obtain ⟨l, el⟩ := e
  rw [el]
  exact law_loop hc (by omega) l [] none none none none none none none none ⟨[], rfl⟩
end KK
end
set_option Elab.async false
set_option linter.all false
set_option maxRecDepth 100000
open PySem PySem.W PyProof.Rows
set_option maxRecDepth 100000 in
set_option maxHeartbeats 0 in
theorem PySem.Challenge.cw_termsonwires_k01_judges_and_places_holds : PySem.Challenge.rw_termsonwires_k01_judges_and_places.Holds := by
  w_on; o_law; k_head; (case hw => w_witness2)
  k_fill
  refine KK.walk (l := PySem.Challenge.rw_termsonwires_k01_judges_and_places) rfl rfl (fun w h Y => PySem.W.kIn_of Y) ?F
  case F =>
    intro w mg fa h KX G hmg
    refine' KK.all_mk KX G hmg ?dD ?gS ?gP ?gW ?eS ?eP ?iS ?iP ?nSP ?sSP ?sPS ?bW ?iW ?tW ?sSW ?sPW ?z_abs ?z_all ?z_bool ?z_int ?z_isinstance ?z_len ?z_list ?z_ord ?z_range ?z_str ?z_tuple ?k_DIGITS ?k_LETTERS ?k_PERCENT ?k_ATOM_BOUND ?k_TEXT_SIGNS ?k_NAME_SIGNS ?k_MOST_BITS ?k_MOST_WIDTH ?k_MOST_TIMES ?k_MOST_MARK ?k_MOST_ROWS ?k_MOST_CHECK ?k_MOST_DEPTH ?k_MOST_ENTRIES ?gF ?lF ?hF ?oF ?v_0 ?v_1 ?v_2 ?v_3 ?v_4 ?v_5 ?v_6 ?v_7 ?v_8 ?v_9 ?v_10 60 KK.m1 KK.m2 KK.m3
    (case dD => intro i; cases i <;> (refine' KK.defAt_mk ?a ?l ?c ?k; (case a => k_is); (case l => k_is); (case c => k_is); (case k => k_is)))
    (case gS => k_is); (case gP => k_is); (case gW => k_is)
    (case eS => refine' ⟨?x, ?k, ?b, ?t, ⟨?hg, ?hk, ?hs, ?hd, ?ha, ?hn, ?ht, ?hm⟩⟩; (case x => k_exc); (case k => k_is); (case b => k_is); (case t => k_is); (case hg => k_is); (case hk => k_is); (case hs => k_is); (case hd => k_is); (case ha => k_is); (case hn => k_is); (case ht => k_is); (case hm => k_is))
    (case eP => refine' ⟨?x, ?k, ?b, ?t, ⟨?hg, ?hk, ?hs, ?hd, ?ha, ?hn, ?ht, ?hm⟩⟩; (case x => k_exc); (case k => k_is); (case b => k_is); (case t => k_is); (case hg => k_is); (case hk => k_is); (case hs => k_is); (case hd => k_is); (case ha => k_is); (case hn => k_is); (case ht => k_is); (case hm => k_is))
    (case nSP => decide)
    (case iS => k_is)
    (case iP => k_is)
    (case sSP => k_is)
    (case sPS => k_is)
    (case bW => k_is)
    (case iW => k_is)
    (case tW => k_is)
    (case sSW => k_is)
    (case sPW => k_is)
    (case z_abs => k_is)
    (case z_all => k_is)
    (case z_bool => k_is)
    (case z_int => k_is)
    (case z_isinstance => k_is)
    (case z_len => k_is)
    (case z_list => k_is)
    (case z_ord => k_is)
    (case z_range => k_is)
    (case z_str => k_is)
    (case z_tuple => k_is)
    (case k_DIGITS => k_is)
    (case k_LETTERS => k_is)
    (case k_PERCENT => k_is)
    (case k_ATOM_BOUND => k_is)
    (case k_TEXT_SIGNS => k_is)
    (case k_NAME_SIGNS => k_is)
    (case k_MOST_BITS => k_is)
    (case k_MOST_WIDTH => k_is)
    (case k_MOST_TIMES => k_is)
    (case k_MOST_MARK => k_is)
    (case k_MOST_ROWS => k_is)
    (case k_MOST_CHECK => k_is)
    (case k_MOST_DEPTH => k_is)
    (case k_MOST_ENTRIES => k_is)
    (case gF => k_is)
    (case lF => k_is)
    (case v_0 => k_is)
    (case v_1 => k_is)
    (case v_2 => k_is)
    (case v_3 => k_is)
    (case v_4 => k_is)
    (case v_5 => k_is)
    (case v_6 => k_is)
    (case v_7 => k_is)
    (case v_8 => k_is)
    (case v_9 => k_is)
    (case v_10 => k_is)
    (case hF => exact ⟨⟨_, _, rfl, rfl⟩, ⟨_, _, rfl, rfl⟩, ⟨_, _, rfl, rfl⟩, ⟨_, _, rfl, rfl⟩, ⟨_, _, rfl, rfl⟩, ⟨_, _, rfl, rfl⟩, ⟨_, _, rfl, rfl⟩, ⟨_, _, rfl, rfl⟩, ⟨_, _, rfl, rfl⟩, ⟨_, _, rfl, rfl⟩, ⟨_, _, rfl, rfl⟩, trivial⟩)
    (case oF => rfl)

