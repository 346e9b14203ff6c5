import PyProof.Rows.All
import Wide.All
import OpenK.AllK
import Wide.FinOn
import HandS.ForMost
import HandS.ForExc
import HandS.CallSlots
import HandS.Wide
import HandS.Gcd
import HandS.IsInst
import HandS.Walk
import HandS.ExcInit
import HandS.ExcValue
import HandS.ExcField
import HandS.TryMany
import HandS.Defaults
import KE.KExcIs
import HandS.Flow
import KE.GoesEnum
import HandS.Iter
import HandS.ExcOwn
import HandS.TryOnly
import HandS.WordsExc
import HandS.Ends
import HandS.TupMul
import HandS.ExcIs
import HandS.Style
import HandS.EndBits
import KE.BitLaws
import PySem.Challenge.RW_loopsbeside_k07_fractions
set_option Elab.async false
set_option linter.all false
set_option maxRecDepth 100000
set_option maxHeartbeats 4000000
namespace Lb
open PySem PySem.Spec PyProof.Rows L2

/-! ### data: values by value, lists and dicts by their number in a store -/
inductive D where
  | non | bl (b : Bool) | int (i : Int) | str (x : Str) | tup (xs : List D) | ref (n : Nat) | fn (k : Nat) | err (a : Addr)
  /-- a caught error whose fields' dict is entry n, at dd -/
  | exf (a : Addr) (n : Nat) (dd : Addr)
/-- what stands in the store: a list; the script (read only); a dict (keys, values, in order of first storing) -/
inductive PO where
  | lst (xs : List D) | scr (xs : List D) | dct (es : List (D × D)) | xd (f : Str) (v : D)
  /-- an error as a value: its class's number (of the places that fa tells), where its fields' dict stands -/
  | exv (c : Nat) (m : Option Nat)
abbrev PH := List PO
abbrev RO := List (Option D)
def PO.mut : PO → Bool
  | .lst _ => true
  | .dct _ => true
  | _ => false
/-- an error: which class, where what it keeps stands -/
structure EX where
  c : Nat
  a : Option Nat
inductive R (α : Type) where
  | ok (a : α) (π : PH)
  | exc (e : EX) (π : PH)
  | bad
inductive RS where
  | nx (ρ : RO) (π : PH) | rt (d : D) (π : PH) | bk (ρ : RO) (π : PH) | ct (ρ : RO) (π : PH) | exc (e : EX) (ρ : RO) (π : PH) | bad
abbrev Ev := RO → PH → R D
abbrev Av := RO → PH → R (List D)
abbrev Sv := RO → PH → RS
abbrev Tv := D → RO → Option RO

/-- a list that is read alone -/
def SqF (K : PySem.W.Frag) (H : Hp) (a : Addr) (xs : List V) : Prop :=
  (∃ o, H a = some (.frz o (.lst xs))) ∨
    ∃ (o : Obj) (its : Array Value) (n : Nat), K.lookup a = some o ∧ o.cls = .type "list" ∧ o.dict = none ∧ o.data = .seq its n ∧ its.size ≤ sizeLine ∧ Vals xs its.toList
theorem SqF.sq {K : PySem.W.Frag} {H : Hp} {a : Addr} {xs : List V} (h : SqF K H a xs) : SqL K H a xs := by
  rcases h with ⟨o, h⟩ | h
  · exact .inl (.inr ⟨o, h⟩)
  · exact .inr h
/-- where the functions that are values stand -/
abbrev FA := Nat → Option Addr

section
variable (K : PySem.W.Frag) (fa : FA) (H : Hp) (μ : List Addr)
mutual
def RD : D → V → Prop
  | .non, v => v = .non
  | .bl b, v => v = .bl b
  | .int i, v => v = .int i
  | .str x, v => v = .str x
  | .tup ds, v => ∃ a vs, v = .ref a ∧ SqT K H a vs ∧ RDs ds vs
  | .ref n, v => ∃ a, v = .ref a ∧ μ[n]? = some a
  | .fn k, v => ∃ a, v = .ref a ∧ fa k = some a
  | .err a, v => v = .ref a
  | .exf a n dd, v => v = .ref a ∧ μ[n]? = some dd
def RDs : List D → List V → Prop
  | [], vs => vs = []
  | d :: ds, vs => ∃ v r, vs = v :: r ∧ RD d v ∧ RDs ds r
end
def RPO (a : Addr) : PO → Prop
  | .lst xs => ∃ vs, H a = some (.lst vs) ∧ RDs K fa H μ xs vs
  | .scr xs => ∃ vs, SqF K H a vs ∧ RDs K fa H μ xs vs
  | .dct es => False
  | .xd f v => ∃ u, H a = some (.xd [(f, u)]) ∧ RD K fa H μ v u
  | .exv c m => ∃ C, fa c = some C ∧ match m with
    | none => H a = some (exo a C none)
    | some k => ∃ dx, μ[k]? = some dx ∧ H a = some (exo a C (some dx))
structure HR (π : PH) : Prop where
  len : μ.length = π.length
  at' : ∀ (n : Nat) (o : PO), π[n]? = some o → ∃ a, μ[n]? = some a ∧ RPO K fa H μ a o
  inj : ∀ (n m : Nat) (a : Addr) (x y : PO), π[n]? = some x → π[m]? = some y → x.mut = true → y.mut = true → μ[n]? = some a → μ[m]? = some a → n = m
end
/-- later: more is tracked, the tuples stand -/
structure Grow (K : PySem.W.Frag) (H : Hp) (μ : List Addr) (H' : Hp) (μ' : List Addr) : Prop where
  pre : ∀ (n : Nat) (a : Addr), μ[n]? = some a → μ'[n]? = some a
  tup : ∀ a xs, SqT K H a xs → SqT K H' a xs
theorem Grow.refl {K : PySem.W.Frag} {H : Hp} {μ : List Addr} : Grow K H μ H μ := ⟨fun _ _ h => h, fun _ _ h => h⟩
theorem Grow.trans {K : PySem.W.Frag} {H H1 H2 : Hp} {μ μ1 μ2 : List Addr} (a : Grow K H μ H1 μ1) (b : Grow K H1 μ1 H2 μ2) : Grow K H μ H2 μ2 :=
  ⟨fun n x h => b.pre n x (a.pre n x h), fun x xs h => b.tup x xs (a.tup x xs h)⟩
section
variable {K : PySem.W.Frag} {fa : FA} {H H' : Hp} {μ μ' : List Addr}
mutual
theorem RD.grow (g : Grow K H μ H' μ') : ∀ {d : D} {v : V}, RD K fa H μ d v → RD K fa H' μ' d v
  | .non, _, h => h
  | .bl _, _, h => h
  | .int _, _, h => h
  | .str _, _, h => h
  | .tup ds, _, h => by
    unfold RD at h ⊢
    obtain ⟨a, vs, e, t, r⟩ := h
    exact ⟨a, vs, e, g.tup a vs t, RDs.grow g r⟩
  | .ref n, _, h => by
    unfold RD at h ⊢
    obtain ⟨a, e, m⟩ := h
    exact ⟨a, e, g.pre n a m⟩
  | .fn k, _, h => by
    unfold RD at h ⊢
    exact h
  | .err a, _, h => h
  | .exf a n dd, _, h => by
    unfold RD at h ⊢
    exact ⟨h.1, g.pre n dd h.2⟩
theorem RDs.grow (g : Grow K H μ H' μ') : ∀ {ds : List D} {vs : List V}, RDs K fa H μ ds vs → RDs K fa H' μ' ds vs
  | [], _, h => h
  | d :: ds, _, h => by
    unfold RDs at h ⊢
    obtain ⟨v, r, e, h1, h2⟩ := h
    exact ⟨v, r, e, RD.grow g h1, RDs.grow g h2⟩
end
theorem RDs.length : ∀ {ds : List D} {vs : List V}, RDs K fa H μ ds vs → vs.length = ds.length
  | [], _, h => by unfold RDs at h; rw [h]; rfl
  | d :: ds, _, h => by
    unfold RDs at h
    obtain ⟨v, r, e, _, h2⟩ := h
    rw [e, List.length_cons, List.length_cons, RDs.length h2]
theorem RDs.get : ∀ {ds : List D} {vs : List V} {i : Nat} {d : D}, RDs K fa H μ ds vs → ds[i]? = some d → ∃ v, vs[i]? = some v ∧ RD K fa H μ d v
  | [], _, i, _, _, e => by simp at e
  | d :: ds, _, 0, x, h, e => by
    unfold RDs at h
    obtain ⟨v, r, e1, h1, h2⟩ := h
    simp at e
    subst e e1
    exact ⟨v, rfl, h1⟩
  | d :: ds, _, i + 1, x, h, e => by
    unfold RDs at h
    obtain ⟨v, r, e1, h1, h2⟩ := h
    subst e1
    obtain ⟨u, q1, q2⟩ := RDs.get (i := i) h2 (by simpa using e)
    exact ⟨u, by simpa using q1, q2⟩
theorem RDs.nil : RDs K fa H μ [] [] := by unfold RDs; rfl
theorem RDs.cons {d : D} {ds : List D} {v : V} {vs : List V} (h : RD K fa H μ d v) (r : RDs K fa H μ ds vs) : RDs K fa H μ (d :: ds) (v :: vs) := by
  unfold RDs; exact ⟨v, vs, rfl, h, r⟩
theorem RDs.append : ∀ {ds es : List D} {vs us : List V}, RDs K fa H μ ds vs → RDs K fa H μ es us → RDs K fa H μ (ds ++ es) (vs ++ us)
  | [], _, _, _, h, r => by unfold RDs at h; subst h; exact r
  | d :: ds, _, _, _, h, r => by
    unfold RDs at h
    obtain ⟨v, r', e1, h1, h2⟩ := h
    subst e1
    exact .cons h1 (RDs.append h2 r)
theorem RDs.set : ∀ {ds : List D} {vs : List V} {d : D} {v : V} (i : Nat), RDs K fa H μ ds vs → RD K fa H μ d v → RDs K fa H μ (ds.set i d) (vs.set i v)
  | [], _, _, _, i, h, r => by unfold RDs at h; subst h; exact .nil
  | d :: ds, _, _, _, 0, h, r => by
    unfold RDs at h
    obtain ⟨v, r', e1, h1, h2⟩ := h
    subst e1
    exact .cons r h2
  | d :: ds, _, _, _, i + 1, h, r => by
    unfold RDs at h
    obtain ⟨v, r', e1, h1, h2⟩ := h
    subst e1
    exact .cons h1 (RDs.set i h2 r)
theorem RDs.take : ∀ {ds : List D} {vs : List V} (i : Nat), RDs K fa H μ ds vs → RDs K fa H μ (ds.take i) (vs.take i)
  | _, _, 0, _ => by simp; exact .nil
  | [], _, i + 1, h => by unfold RDs at h; subst h; exact .nil
  | d :: ds, _, i + 1, h => by
    unfold RDs at h
    obtain ⟨v, r', e1, h1, h2⟩ := h
    subst e1
    exact .cons h1 (RDs.take i h2)
theorem RDs.drop : ∀ {ds : List D} {vs : List V} (i : Nat), RDs K fa H μ ds vs → RDs K fa H μ (ds.drop i) (vs.drop i)
  | _, _, 0, h => h
  | [], _, i + 1, h => by unfold RDs at h; subst h; exact .nil
  | d :: ds, _, i + 1, h => by
    unfold RDs at h
    obtain ⟨v, r', e1, h1, h2⟩ := h
    subst e1
    exact RDs.drop i h2
theorem RDs.reverse : ∀ {ds : List D} {vs : List V}, RDs K fa H μ ds vs → RDs K fa H μ ds.reverse vs.reverse
  | [], _, h => by unfold RDs at h; subst h; exact .nil
  | d :: ds, _, h => by
    unfold RDs at h
    obtain ⟨v, r', e1, h1, h2⟩ := h
    subst e1
    rw [List.reverse_cons, List.reverse_cons]
    exact RDs.append (RDs.reverse h2) (.cons h1 .nil)
theorem RDs.nil_inv {vs : List V} (h : RDs K fa H μ [] vs) : vs = [] := by unfold RDs at h; exact h
theorem RDs.cons_inv {d : D} {ds : List D} {vs : List V} (h : RDs K fa H μ (d :: ds) vs) : ∃ v r, vs = v :: r ∧ RD K fa H μ d v ∧ RDs K fa H μ ds r := by unfold RDs at h; exact h

/-! ### the locals -/
structure SR (K : PySem.W.Frag) (fa : FA) (H : Hp) (μ : List Addr) (ρ : RO) (π : PH) (σ : L2.St) : Prop where
  hr : HR K fa H μ π
  lc : ∀ (i : Nat) (d : D), ρ[i]? = some (some d) → ∃ v, σ[i]? = some (some v) ∧ RD K fa H μ d v
  ln : ρ.length = σ.length
end
end Lb
set_option Elab.async false
set_option linter.all false
set_option maxRecDepth 100000
set_option maxHeartbeats 4000000
namespace Lb
open PySem PySem.Spec PyProof.Rows L2

/-! ### what is wanted of a result -/
/-- the world: what is written, the functions' places, the error classes' places -/
structure Wd where
  K : PySem.W.Frag
  fa : FA
  ec : Nat → Option Addr
/-- what an error keeps -/
def RX (w : Wd) (H : Hp) (μ : List Addr) (e : EX) (dx : Option Addr) : Prop :=
  match e.a with
  | none => dx = none
  | some n => ∃ dd, dx = some dd ∧ μ[n]? = some dd

def R.bind {α β : Type} (r : R α) (f : α → PH → R β) : R β := match r with
  | .ok a π => f a π
  | .exc e π => .exc e π
  | .bad => .bad
@[simp] theorem R.bind_ok {α β : Type} {a : α} {π : PH} {f : α → PH → R β} : (R.ok a π).bind f = f a π := rfl
@[simp] theorem R.bind_exc {α β : Type} {e : EX} {π : PH} {f : α → PH → R β} : (R.exc e π : R α).bind f = .exc e π := rfl
@[simp] theorem R.bind_bad {α β : Type} {f : α → PH → R β} : (R.bad : R α).bind f = .bad := rfl

section
variable (w : Wd) (W : WX) (σ : L2.St)
def Po {α β : Type} (rel : Hp → List Addr → α → β → Prop) (H : Hp) (μ : List Addr) (r : R α) (Q : β → Hp → Prop) : Prop := match r with
  | .ok a π => ∀ b H' μ', Grow w.K H μ H' μ' → HR w.K w.fa H' μ' π → rel H' μ' a b → Q b H'
  | .exc e π => ∀ C dx H' μ', w.ec e.c = some C → Grow w.K H μ H' μ' → HR w.K w.fa H' μ' π → RX w H' μ' e dx → W (.ref C) dx σ H'
  | .bad => False
abbrev rD (w : Wd) : Hp → List Addr → D → V → Prop := fun H μ d v => RD w.K w.fa H μ d v
abbrev rDs (w : Wd) : Hp → List Addr → List D → List V → Prop := fun H μ d v => RDs w.K w.fa H μ d v
abbrev rB : Hp → List Addr → Bool → Bool → Prop := fun _ _ b c => b = c
/-- an expression's reading by data -/
def tD (a : Ev) : TE := fun σ H Q => ∃ ρ π μ, SR w.K w.fa H μ ρ π σ ∧ Po w W σ (rD w) H μ (a ρ π) Q
def tA (a : Av) : TA := fun σ H Q => ∃ ρ π μ, SR w.K w.fa H μ ρ π σ ∧ Po w W σ (rDs w) H μ (a ρ π) Q
def tT (a : RO → PH → R Bool) : TT := fun σ H Q => ∃ ρ π μ, SR w.K w.fa H μ ρ π σ ∧ Po w W σ rB H μ (a ρ π) Q
end
section
variable {w : Wd} {W : WX} {σ : L2.St} {H H1 : Hp} {μ μ1 : List Addr}
theorem Po.grow {α β : Type} {rel : Hp → List Addr → α → β → Prop} {r : R α} {Q : β → Hp → Prop} (g : Grow w.K H μ H1 μ1) (h : Po w W σ rel H μ r Q) : Po w W σ rel H1 μ1 r Q := by
  cases r with
  | ok a π => exact fun b H' μ' g' hr rl => h b H' μ' (g.trans g') hr rl
  | exc e π => exact fun C dx H' μ' hc g' hr rx => h C dx H' μ' hc (g.trans g') hr rx
  | bad => exact h
theorem Po.mono {α β : Type} {rel : Hp → List Addr → α → β → Prop} {r : R α} {Q Q' : β → Hp → Prop} (h : Po w W σ rel H μ r Q) (k : ∀ b H', Q b H' → Q' b H') : Po w W σ rel H μ r Q' := by
  cases r with
  | ok a π => exact fun b H' μ' g' hr rl => k _ _ (h b H' μ' g' hr rl)
  | exc e π => exact h
  | bad => exact h
theorem po_bind {α β γ δ : Type} {rel : Hp → List Addr → α → β → Prop} {rel2 : Hp → List Addr → γ → δ → Prop} {r : R α} {f : α → PH → R γ} {Q : δ → Hp → Prop} {Q1 : β → Hp → Prop}
    (h : Po w W σ rel2 H μ (r.bind f) Q) (k : ∀ d π1 v H1 μ1, Grow w.K H μ H1 μ1 → HR w.K w.fa H1 μ1 π1 → rel H1 μ1 d v → Po w W σ rel2 H1 μ1 (f d π1) Q → Q1 v H1) : Po w W σ rel H μ r Q1 := by
  cases r with
  | ok a π => exact fun b H' μ' g hr rl => k a π b H' μ' g hr rl (Po.grow g h)
  | exc e π => exact h
  | bad => exact h
theorem SR.grow {ρ : RO} {π π' : PH} (s : SR w.K w.fa H μ ρ π σ) (g : Grow w.K H μ H1 μ1) (h : HR w.K w.fa H1 μ1 π') : SR w.K w.fa H1 μ1 ρ π' σ :=
  ⟨h, fun i d e => let ⟨v, e1, r⟩ := s.lc i d e; ⟨v, e1, r.grow g⟩, s.ln⟩
end

/-! ### weakening a reading -/
theorem _root_.L2.PE.imp {X : Cx} {e : Expr} {t t' : TE} (h : PE X e t) (k : ∀ σ H Q, t' σ H Q → t σ H Q) : PE X e t' := ⟨fun pins s σ H Q I q => h.run pins s σ H Q I (k σ H Q q)⟩
theorem _root_.L2.PT.imp {X : Cx} {e : Expr} {t t' : TT} (h : PT X e t) (k : ∀ σ H Q, t' σ H Q → t σ H Q) : PT X e t' := ⟨fun pins s σ H Q I q => h.run pins s σ H Q I (k σ H Q q)⟩
theorem _root_.L2.PW.imp {X : Cx} {e : Expr} {t t' : TT} (h : PW X e t) (k : ∀ σ H Q, t' σ H Q → t σ H Q) : PW X e t' := ⟨fun wh pins s σ H Q I q => h.run wh pins s σ H Q I (k σ H Q q)⟩
theorem _root_.L2.PA.imp {X : Cx} {e : List Expr} {t t' : TA} (h : PA X e t) (k : ∀ σ H Q, t' σ H Q → t σ H Q) : PA X e t' := ⟨fun p pins s σ H Q I q => h.run p pins s σ H Q I (k σ H Q q)⟩
theorem _root_.L2.PS.imp {X : Cx} {e : Stmt} {t t' : TS} (h : PS X e t) (k : ∀ D σ H, t' D σ H → t D σ H) : PS X e t' := ⟨fun pins s σ H Q I q => h.run pins s σ H Q I (k Q σ H q)⟩
theorem _root_.L2.PSs.imp {X : Cx} {e : List Stmt} {t t' : TS} (h : PSs X e t) (k : ∀ D σ H, t' D σ H → t D σ H) : PSs X e t' := ⟨fun pins s σ H Q I q => h.run pins s σ H Q I (k Q σ H q)⟩

/-! ### names, constants -/
def eVar (i : Nat) : Ev := fun ρ π => match ρ[i]? with
  | some (some d) => .ok d π
  | _ => .bad
def eC (d : D) : Ev := fun _ π => .ok d π
section
variable {X : Cx} {w : Wd} {W : WX} {pos : Pos} {a b c : Expr}
theorem po_ok {α β : Type} {rel : Hp → List Addr → α → β → Prop} {σ : L2.St} {H : Hp} {μ : List Addr} {d : α} {π : PH} {v : β} {Q : β → Hp → Prop} (h : Po w W σ rel H μ (.ok d π) Q) (hr : HR w.K w.fa H μ π) (r : rel H μ d v) : Q v H :=
  h v H μ Grow.refl hr r
theorem de_var (i : Nat) {t : TE} (h : PE X a t) (ht : t = tVar i := by rfl) : PE X a (tD w W (eVar i)) := by
  subst ht
  refine h.imp fun σ H Q ⟨ρ, π, μ, sr, q⟩ => ?_
  unfold eVar at q
  split at q
  · rename_i d e
    obtain ⟨v, e1, r⟩ := sr.lc i d e
    exact ⟨v, e1, po_ok q sr.hr r⟩
  · exact q.elim
theorem de_c {d : D} {v : V} (h : PE X a (tC v)) (hd : ∀ H μ, RD w.K w.fa H μ d v) : PE X a (tD w W (eC d)) := by
  refine h.imp fun σ H Q ⟨ρ, π, μ, sr, q⟩ => ?_
  exact po_ok q sr.hr (hd H μ)
theorem de_int {i : Int} {j} : PE X (.Constant (.int i) j pos) (tD w W (eC (.int i))) := de_c pe_int fun _ _ => by unfold RD; rfl
theorem de_bl {i : Bool} {j} : PE X (.Constant (.bool i) j pos) (tD w W (eC (.bl i))) := de_c pe_bl fun _ _ => by unfold RD; rfl
theorem de_non {j} : PE X (.Constant .none j pos) (tD w W (eC .non)) := de_c pe_non fun _ _ => by unfold RD; rfl
theorem de_str {x : Str} {j} : PE X (.Constant (.str x) j pos) (tD w W (eC (.str x))) := de_c pe_str fun _ _ => by unfold RD; rfl

/-! ### argument lists -/
def aNil : Av := fun _ π => .ok [] π
def aCons (e : Ev) (r : Av) : Av := fun ρ π => (e ρ π).bind fun d π1 => (r ρ π1).bind fun ds π2 => .ok (d :: ds) π2
variable {es : List Expr} {ea eb : Ev} {aa : Av}
theorem da_nil : PA X [] (tA w W aNil) := pa_nil.imp fun σ H Q ⟨ρ, π, μ, sr, q⟩ => po_ok q sr.hr RDs.nil
theorem da_cons (ha : PE X a (tD w W ea)) (hr : PA X es (tA w W aa)) (hs : starEach (a :: es) X.env = (false, eval a X.env) :: starEach es X.env := by rfl) : PA X (a :: es) (tA w W (aCons ea aa)) := by
  refine (pa_cons ha hr hs).imp fun σ H Q ⟨ρ, π, μ, sr, q⟩ => ?_
  refine ⟨ρ, π, μ, sr, po_bind q fun d π1 v H1 μ1 g hr rd q1 => ⟨ρ, π1, μ1, sr.grow g hr, po_bind q1 fun ds π2 vs H2 μ2 g2 hr2 rds q2 => ?_⟩⟩
  exact po_ok q2 hr2 (.cons (rd.grow g2) rds)

/-! ### operators by values -/
abbrev O2 := D → D → PH → R D
def eBin (op : O2) (ea eb : Ev) : Ev := fun ρ π => (ea ρ π).bind fun x π1 => (eb ρ π1).bind fun y π2 => op x y π2
/-- op is covered by r -/
def Cov2 (w : Wd) (op : O2) (r : R2) : Prop := ∀ (W : WX) (σ : L2.St) (H : Hp) (μ : List Addr) (π : PH) (x y : D) (u v : V) (Q : VK), HR w.K w.fa H μ π → RD w.K w.fa H μ x u → RD w.K w.fa H μ y v → Po w W σ (rD w) H μ (op x y π) Q → r u v H Q
theorem to_tOp {op : O2} {r : R2} (hc : Cov2 w op r) {σ : L2.St} {H : Hp} {Q : VK} (h : tD w W (eBin op ea eb) σ H Q) : tOp r (tD w W ea) (tD w W eb) σ H Q := by
  obtain ⟨ρ, π, μ, sr, q⟩ := h
  exact ⟨ρ, π, μ, sr, po_bind q fun d π1 v H1 μ1 g hr rd q1 => ⟨ρ, π1, μ1, sr.grow g hr, po_bind q1 fun e π2 u H2 μ2 g2 hr2 rd2 q2 => hc W σ H2 μ2 π2 d e v u Q hr2 (rd.grow g2) rd2 q2⟩⟩
theorem de_op {op : O2} {r : R2} {o : Operator} (ho : OpR X (binaryOp o) r) (hc : Cov2 w op r) (ha : PE X a (tD w W ea)) (hb : PE X b (tD w W eb)) : PE X (.BinOp a o b pos) (tD w W (eBin op ea eb)) :=
  (pe_op ho ha hb).imp fun _ _ _ h => to_tOp hc h
theorem de_cmp {op : O2} {r : R2} {o : CmpOp} (ho : OpR X (compareOp o) r) (hc : Cov2 w op r) (ha : PE X a (tD w W ea)) (hb : PE X b (tD w W eb)) (hm : behindInMarks o b = false := by rfl) : PE X (.Compare a [o] [b] pos) (tD w W (eBin op ea eb)) :=
  (pe_cmpR ho ha hb hm).imp fun _ _ _ h => to_tOp hc h
abbrev O1 := D → PH → R D
def eUn (op : O1) (ea : Ev) : Ev := fun ρ π => (ea ρ π).bind op
def Cov1 (w : Wd) (op : O1) (r : V → Hp → VK → Prop) : Prop := ∀ (W : WX) (σ : L2.St) (H : Hp) (μ : List Addr) (π : PH) (x : D) (u : V) (Q : VK), HR w.K w.fa H μ π → RD w.K w.fa H μ x u → Po w W σ (rD w) H μ (op x π) Q → r u H Q
theorem to_tUn {op : O1} {r : V → Hp → VK → Prop} (hc : Cov1 w op r) {σ : L2.St} {H : Hp} {Q : VK} (h : tD w W (eUn op ea) σ H Q) : tUn r (tD w W ea) σ H Q := by
  obtain ⟨ρ, π, μ, sr, q⟩ := h
  exact ⟨ρ, π, μ, sr, po_bind q fun d π1 v H1 μ1 g hr rd q1 => hc W σ H1 μ1 π1 d v Q hr rd q1⟩
theorem de_un {op : O1} {r : V → Hp → VK → Prop} {o : UnaryOp} (ho : UnR X (unaryOp o) r) (hc : Cov1 w op r) (ha : PE X a (tD w W ea)) : PE X (.UnaryOp o a pos) (tD w W (eUn op ea)) :=
  (pe_un ho ha).imp fun _ _ _ h => to_tUn hc h
/-- a built-in called: its arguments as a list -/
abbrev ON := List D → PH → R D
def eCall (op : ON) (aa : Av) : Ev := fun ρ π => (aa ρ π).bind op
def CovN (w : Wd) (op : ON) (r : List V → Hp → VK → Prop) : Prop := ∀ (W : WX) (σ : L2.St) (H : Hp) (μ : List Addr) (π : PH) (xs : List D) (us : List V) (Q : VK), HR w.K w.fa H μ π → RDs w.K w.fa H μ xs us → Po w W σ (rD w) H μ (op xs π) Q → r us H Q
theorem to_tCB {op : ON} {r : List V → Hp → VK → Prop} (hc : CovN w op r) {σ : L2.St} {H : Hp} {Q : VK} (h : tD w W (eCall op aa) σ H Q) : tCB r (tA w W aa) σ H Q := by
  obtain ⟨ρ, π, μ, sr, q⟩ := h
  exact ⟨ρ, π, μ, sr, po_bind q fun d π1 v H1 μ1 g hr rd q1 => hc W σ H1 μ1 π1 d v Q hr rd q1⟩

end
end Lb
set_option Elab.async false
set_option linter.all false
set_option maxRecDepth 100000
set_option maxHeartbeats 4000000
namespace Lb
open PySem PySem.Spec PyProof.Rows L2

/-! ### tests -/
def LEN : Nat := 1000000
theorem len_ok {n : Nat} (h : n ≤ LEN) : n ≤ sizeLine := Nat.le_trans h (by rw [sizeLine_eq]; decide)
theorem len_lt {n : Nat} (h : n ≤ LEN) : n < sizeLine := Nat.lt_of_le_of_lt h (by rw [sizeLine_eq]; decide)
def truV (d : D) (π : PH) : Option Bool := match d with
  | .non => some false
  | .bl b => some b
  | .int i => some (i != 0)
  | .str x => if x.length ≤ LEN then some ((x.length : Int) != 0) else none
  | .tup xs => some (!xs.isEmpty)
  | .ref n => match π[n]? with
    | some (.lst xs) => some (!xs.isEmpty)
    | some (.scr xs) => some (!xs.isEmpty)
    | _ => none
  | .fn _ => none
  | .err _ => none
  | .exf _ _ _ => none
def trD (d : D) (π : PH) : R Bool := match truV d π with
  | some b => .ok b π
  | none => .bad
def tst (e : Ev) : RO → PH → R Bool := fun ρ π => (e ρ π).bind trD
section
variable {w : Wd} {H : Hp} {μ : List Addr} {π : PH}
theorem RDs.isEmpty {ds : List D} {vs : List V} (h : RDs w.K w.fa H μ ds vs) : ds.isEmpty = vs.isEmpty := by
  have e := h.length
  cases ds <;> cases vs <;> simp_all
theorem truV_ok (hr : HR w.K w.fa H μ π) : ∀ {d : D} {v : V} {b : Bool}, RD w.K w.fa H μ d v → truV d π = some b → TruV w.K v H b := by
  intro d v b r e
  cases d with
  | non => unfold RD at r; subst r; simp [truV] at e; subst e; rfl
  | bl x => unfold RD at r; subst r; simp [truV] at e; subst e; rfl
  | int i => unfold RD at r; subst r; simp only [truV, Option.some.injEq] at e; subst e; rfl
  | str x =>
    unfold RD at r; subst r
    simp only [truV] at e
    split at e
    · rename_i h
      simp only [Option.some.injEq] at e
      exact ⟨len_ok h, e.symm⟩
    · cases e
  | tup xs =>
    unfold RD at r
    obtain ⟨a, vs, rfl, ht, rs⟩ := r
    simp only [truV, Option.some.injEq] at e
    exact .inr (.inl ⟨vs, ht, by rw [← e, rs.isEmpty]⟩)
  | ref n =>
    unfold RD at r
    obtain ⟨a, rfl, hm⟩ := r
    simp only [truV] at e
    split at e
    · rename_i xs hn
      simp only [Option.some.injEq] at e
      obtain ⟨a', e1, vs, e2, rs⟩ := hr.at' n _ hn
      rw [hm] at e1; cases e1
      exact .inl ⟨vs, SqL.of e2, by rw [← e, rs.isEmpty]⟩
    · rename_i xs hn
      simp only [Option.some.injEq] at e
      obtain ⟨a', e1, vs, e2, rs⟩ := hr.at' n _ hn
      rw [hm] at e1; cases e1
      exact .inl ⟨vs, e2.sq, by rw [← e, rs.isEmpty]⟩
    · cases e
  | fn k => simp [truV] at e
  | err a => simp [truV] at e
  | exf a n dd => simp [truV] at e
end
section
variable {X : Cx} {w : Wd} {W : WX} {pos : Pos} {a b c : Expr} {ea eb ec' : Ev} {rest : List Expr} {ta tb : RO → PH → R Bool}
theorem dt_tru (hK : X.K = w.K) (ha : PE X a (tD w W ea)) (he : ∀ whole, isTrue a X.env whole = (do let v ← whole; standAt a.pos; holding [v] (truthy v)) := by intro _; rfl) : PT X a (tT w W (tst ea)) := by
  refine (pt_truth ha he).imp fun σ H Q ⟨ρ, π, μ, sr, q⟩ => ?_
  refine ⟨ρ, π, μ, sr, po_bind q fun d π1 v H1 μ1 g hr rd q1 => ?_⟩
  unfold trD at q1
  split at q1
  · rename_i k e
    exact ⟨k, by rw [hK]; exact truV_ok hr rd e, po_ok q1 hr rfl⟩
  · exact q1.elim
/-- a comparison as a test: what it gives is a bool -/
def blD (d : D) (π : PH) : R Bool := match d with
  | .bl b => .ok b π
  | _ => .bad
def tstB (e : Ev) : RO → PH → R Bool := fun ρ π => (e ρ π).bind blD
theorem dt_cmp {op : O2} {r : R2} {o : CmpOp} (ho : OpR X (compareOp o) r) (hc : Cov2 w op r) (ha : PE X a (tD w W ea)) (hb : PE X b (tD w W eb)) (hm : behindInMarks o b = false := by rfl) : PT X (.Compare a [o] [b] pos) (tT w W (tstB (eBin op ea eb))) := by
  refine (pt_cmpR ho ha hb hm).imp fun σ H Q ⟨ρ, π, μ, sr, q⟩ => ?_
  refine to_tOp (ea := ea) (eb := eb) (W := W) hc ⟨ρ, π, μ, sr, po_bind q fun d π1 v H1 μ1 g hr rd q1 => ?_⟩
  cases d with
  | bl k => unfold RD at rd; subst rd; exact ⟨k, rfl, po_ok q1 hr rfl⟩
  | _ => exact q1.elim
def tAnd2 (ta tb : RO → PH → R Bool) : RO → PH → R Bool := fun ρ π => (ta ρ π).bind fun k π1 => match k with | true => tb ρ π1 | false => .ok false π1
def tOr2 (ta tb : RO → PH → R Bool) : RO → PH → R Bool := fun ρ π => (ta ρ π).bind fun k π1 => match k with | true => .ok true π1 | false => tb ρ π1
def tNot1 (ta : RO → PH → R Bool) : RO → PH → R Bool := fun ρ π => (ta ρ π).bind fun k π1 => .ok (!k) π1
theorem dw_and1 (ha : PT X a (tT w W ta)) : PW X (.BoolOp .And [a] pos) (tT w W ta) := pw_and1 ha
theorem dw_or1 (ha : PT X a (tT w W ta)) : PW X (.BoolOp .Or [a] pos) (tT w W ta) := pw_or1 ha
theorem dw_and (ha : PT X a (tT w W ta)) (hb : PW X (.BoolOp .And (b :: rest) pos) (tT w W tb)) : PW X (.BoolOp .And (a :: b :: rest) pos) (tT w W (tAnd2 ta tb)) := by
  refine (pw_and ha hb).imp fun σ H Q ⟨ρ, π, μ, sr, q⟩ => ?_
  refine ⟨ρ, π, μ, sr, po_bind q fun k π1 v H1 μ1 g hr rd q1 => ?_⟩
  cases rd
  cases k with
  | true => exact ⟨ρ, π1, μ1, sr.grow g hr, q1⟩
  | false => exact po_ok q1 hr rfl
theorem dw_or (ha : PT X a (tT w W ta)) (hb : PW X (.BoolOp .Or (b :: rest) pos) (tT w W tb)) : PW X (.BoolOp .Or (a :: b :: rest) pos) (tT w W (tOr2 ta tb)) := by
  refine (pw_or ha hb).imp fun σ H Q ⟨ρ, π, μ, sr, q⟩ => ?_
  refine ⟨ρ, π, μ, sr, po_bind q fun k π1 v H1 μ1 g hr rd q1 => ?_⟩
  cases rd
  cases k with
  | true => exact po_ok q1 hr rfl
  | false => exact ⟨ρ, π1, μ1, sr.grow g hr, q1⟩
theorem dt_not (ha : PT X a (tT w W ta)) : PT X (.UnaryOp .Not a pos) (tT w W (tNot1 ta)) := by
  refine (pt_not ha).imp fun σ H Q ⟨ρ, π, μ, sr, q⟩ => ?_
  exact ⟨ρ, π, μ, sr, po_bind q fun k π1 v H1 μ1 g hr rd q1 => po_ok q1 hr (by cases rd; rfl)⟩
/-! as values -/
def eAnd (ea eb : Ev) : Ev := fun ρ π => (ea ρ π).bind fun d π1 => match truV d π1 with | some true => eb ρ π1 | some false => .ok d π1 | none => .bad
def eOr (ea eb : Ev) : Ev := fun ρ π => (ea ρ π).bind fun d π1 => match truV d π1 with | some false => eb ρ π1 | some true => .ok d π1 | none => .bad
def eNot (ea : Ev) : Ev := fun ρ π => (ea ρ π).bind fun d π1 => match truV d π1 with | some b => .ok (.bl (!b)) π1 | none => .bad
def eIf (tc : RO → PH → R Bool) (ea eb : Ev) : Ev := fun ρ π => (tc ρ π).bind fun k π1 => match k with | true => ea ρ π1 | false => eb ρ π1
theorem de_one {op : BoolOp} {e : Ev} (h : PE X a (tD w W e)) : PE X (.BoolOp op [a] pos) (tD w W e) := pe_one h
theorem de_and (hK : X.K = w.K) (ha : PE X a (tD w W ea)) (hb : PE X (.BoolOp .And (b :: rest) pos) (tD w W eb)) : PE X (.BoolOp .And (a :: b :: rest) pos) (tD w W (eAnd ea eb)) := by
  refine (pe_andT ha hb).imp fun σ H Q ⟨ρ, π, μ, sr, q⟩ => ?_
  refine ⟨ρ, π, μ, sr, po_bind q fun d π1 v H1 μ1 g hr rd q1 => ?_⟩
  split at q1
  · rename_i e
    exact ⟨true, by rw [hK]; exact truV_ok hr rd e, ⟨ρ, π1, μ1, sr.grow g hr, q1⟩⟩
  · rename_i e
    exact ⟨false, by rw [hK]; exact truV_ok hr rd e, po_ok q1 hr rd⟩
  · exact q1.elim
theorem de_or (hK : X.K = w.K) (ha : PE X a (tD w W ea)) (hb : PE X (.BoolOp .Or (b :: rest) pos) (tD w W eb)) : PE X (.BoolOp .Or (a :: b :: rest) pos) (tD w W (eOr ea eb)) := by
  refine (pe_orT ha hb).imp fun σ H Q ⟨ρ, π, μ, sr, q⟩ => ?_
  refine ⟨ρ, π, μ, sr, po_bind q fun d π1 v H1 μ1 g hr rd q1 => ?_⟩
  split at q1
  · rename_i e
    exact ⟨false, by rw [hK]; exact truV_ok hr rd e, ⟨ρ, π1, μ1, sr.grow g hr, q1⟩⟩
  · rename_i e
    exact ⟨true, by rw [hK]; exact truV_ok hr rd e, po_ok q1 hr rd⟩
  · exact q1.elim
theorem de_not (hK : X.K = w.K) (ha : PE X a (tD w W ea)) : PE X (.UnaryOp .Not a pos) (tD w W (eNot ea)) := by
  refine (pe_notT ha).imp fun σ H Q ⟨ρ, π, μ, sr, q⟩ => ?_
  refine ⟨ρ, π, μ, sr, po_bind q fun d π1 v H1 μ1 g hr rd q1 => ?_⟩
  split at q1
  · rename_i k e
    exact ⟨k, by rw [hK]; exact truV_ok hr rd e, po_ok q1 hr (by unfold rD; unfold RD; rfl)⟩
  · exact q1.elim
theorem de_if (hc : PT X c (tT w W ta)) (ha : PE X a (tD w W ea)) (hb : PE X b (tD w W eb)) : PE X (.IfExp c a b pos) (tD w W (eIf ta ea eb)) := by
  refine (pe_ifExp hc ha hb).imp fun σ H Q ⟨ρ, π, μ, sr, q⟩ => ?_
  refine ⟨ρ, π, μ, sr, po_bind q fun k π1 v H1 μ1 g hr rd q1 => ?_⟩
  cases rd
  cases k with
  | true => exact ⟨ρ, π1, μ1, sr.grow g hr, q1⟩
  | false => exact ⟨ρ, π1, μ1, sr.grow g hr, q1⟩
end

/-! ### statements -/
def PoS (w : Wd) (W : WX) (E : Ends) (H : Hp) (μ : List Addr) (r : RS) : Prop := match r with
  | .nx ρ π => ∀ σ' H' μ', Grow w.K H μ H' μ' → SR w.K w.fa H' μ' ρ π σ' → E.nx σ' H'
  | .bk ρ π => ∀ σ' H' μ', Grow w.K H μ H' μ' → SR w.K w.fa H' μ' ρ π σ' → E.bk σ' H'
  | .ct ρ π => ∀ σ' H' μ', Grow w.K H μ H' μ' → SR w.K w.fa H' μ' ρ π σ' → E.ct σ' H'
  | .rt d π => ∀ v H' μ', Grow w.K H μ H' μ' → HR w.K w.fa H' μ' π → RD w.K w.fa H' μ' d v → E.rt v H'
  | .exc e ρ π => ∀ C dx σ' H' μ', w.ec e.c = some C → Grow w.K H μ H' μ' → SR w.K w.fa H' μ' ρ π σ' → RX w H' μ' e dx → W (.ref C) dx σ' H'
  | .bad => False
def tS (w : Wd) (W : WX) (s : Sv) : TS := fun E σ H => ∃ ρ π μ, SR w.K w.fa H μ ρ π σ ∧ PoS w W E H μ (s ρ π)
/-- a result of an expression within a statement -/
def R.then {α : Type} (r : R α) (ρ : RO) (f : α → PH → RS) : RS := match r with
  | .ok a π => f a π
  | .exc e π => .exc e ρ π
  | .bad => .bad
@[simp] theorem R.then_ok {α : Type} {a : α} {π : PH} {ρ : RO} {f : α → PH → RS} : (R.ok a π).then ρ f = f a π := rfl
@[simp] theorem R.then_exc {α : Type} {e : EX} {π : PH} {ρ : RO} {f : α → PH → RS} : (R.exc e π : R α).then ρ f = .exc e ρ π := rfl
@[simp] theorem R.then_bad {α : Type} {ρ : RO} {f : α → PH → RS} : (R.bad : R α).then ρ f = .bad := rfl
def sSeq (s t : Sv) : Sv := fun ρ π => match s ρ π with
  | .nx ρ1 π1 => t ρ1 π1
  | r => r
def sNil : Sv := fun ρ π => .nx ρ π
def sExpr (e : Ev) : Sv := fun ρ π => (e ρ π).then ρ fun _ π1 => .nx ρ π1
def sRet (e : Ev) : Sv := fun ρ π => (e ρ π).then ρ fun d π1 => .rt d π1
def sRetN : Sv := fun _ π => .rt .non π
def sIf (c : RO → PH → R Bool) (s t : Sv) : Sv := fun ρ π => (c ρ π).then ρ fun k π1 => match k with | true => s ρ π1 | false => t ρ π1
def sBrk : Sv := fun ρ π => .bk ρ π
def sCont : Sv := fun ρ π => .ct ρ π
def sAsg (e : Ev) (tv : Tv) : Sv := fun ρ π => (e ρ π).then ρ fun d π1 => match tv d ρ with
  | some ρ1 => .nx ρ1 π1
  | none => .bad
def vName (i : Nat) : Tv := fun d ρ => some (ρ.set i (some d))
def sSet (i : Nat) (e : Ev) : Sv := fun ρ π => (e ρ π).then ρ fun d π1 => .nx (ρ.set i (some d)) π1
section
variable {X : Cx} {w : Wd} {W : WX} {pos : Pos} {E : Ends} {H H1 : Hp} {μ μ1 : List Addr}
theorem PoS.grow {r : RS} (g : Grow w.K H μ H1 μ1) (h : PoS w W E H μ r) : PoS w W E H1 μ1 r := by
  cases r with
  | nx ρ π => exact fun σ' H' μ' g' s => h σ' H' μ' (g.trans g') s
  | bk ρ π => exact fun σ' H' μ' g' s => h σ' H' μ' (g.trans g') s
  | ct ρ π => exact fun σ' H' μ' g' s => h σ' H' μ' (g.trans g') s
  | rt d π => exact fun v H' μ' g' s r => h v H' μ' (g.trans g') s r
  | exc e ρ π => exact fun C dx σ' H' μ' hc g' s r => h C dx σ' H' μ' hc (g.trans g') s r
  | bad => exact h
theorem SR.post {α β : Type} {ρ : RO} {π : PH} {σ : L2.St} {rel : Hp → List Addr → α → β → Prop} {r : R α} {f : α → PH → RS} {Q1 : β → Hp → Prop} (sr : SR w.K w.fa H μ ρ π σ)
    (h : PoS w W E H μ (r.then ρ f)) (k : ∀ d π1 v H1 μ1, Grow w.K H μ H1 μ1 → SR w.K w.fa H1 μ1 ρ π1 σ → rel H1 μ1 d v → PoS w W E H1 μ1 (f d π1) → Q1 v H1) : Po w W σ rel H μ r Q1 := by
  cases r with
  | ok a π1 => exact fun b H' μ' g hr rl => k a π1 b H' μ' g (sr.grow g hr) rl (PoS.grow g h)
  | exc e π1 => exact fun C dx H' μ' hc g hr rx => h C dx σ H' μ' hc g (sr.grow g hr) rx
  | bad => exact h
theorem pos_nx {ρ : RO} {π : PH} {σ : L2.St} (h : PoS w W E H μ (.nx ρ π)) (s : SR w.K w.fa H μ ρ π σ) : E.nx σ H := h σ H μ Grow.refl s
variable {st : Stmt} {rest body orelse : List Stmt} {s t : Sv} {a c : Expr} {ea : Ev} {tc : RO → PH → R Bool}
theorem ds_nil : PSs X [] (tS w W sNil) := pss_nil.imp fun E σ H ⟨ρ, π, μ, sr, q⟩ => pos_nx q sr
theorem ds_cons (h1 : PS X st (tS w W s)) (h2 : PSs X rest (tS w W t)) : PSs X (st :: rest) (tS w W (sSeq s t)) := by
  refine (pss_cons h1 h2).imp fun E σ H ⟨ρ, π, μ, sr, q⟩ => ⟨ρ, π, μ, sr, ?_⟩
  unfold sSeq at q
  cases e : s ρ π with
  | nx ρ1 π1 =>
    rw [e] at q
    exact fun σ' H' μ' g sr' => ⟨ρ1, π1, μ', sr', PoS.grow g q⟩
  | rt d π1 => rw [e] at q; exact q
  | bk ρ1 π1 => rw [e] at q; exact q
  | ct ρ1 π1 => rw [e] at q; exact q
  | exc x ρ1 π1 => rw [e] at q; exact q
  | bad => rw [e] at q; exact q
theorem ds_one (h1 : PS X st (tS w W s)) : PSs X [st] (tS w W s) := pss_one h1
theorem ds_pass : PS X (.Pass pos) (tS w W sNil) := ps_pass.imp fun E σ H ⟨ρ, π, μ, sr, q⟩ => pos_nx q sr
theorem ds_break : PS X (.Break pos) (tS w W sBrk) := ps_break.imp fun E σ H ⟨ρ, π, μ, sr, q⟩ => q σ H μ Grow.refl sr
theorem ds_continue : PS X (.Continue pos) (tS w W sCont) := ps_continue.imp fun E σ H ⟨ρ, π, μ, sr, q⟩ => q σ H μ Grow.refl sr
theorem ds_expr (ha : PE X a (tD w W ea)) (hs : swapsWith a none pos.line X.env = pure false := by rfl) : PS X (.Expr a pos) (tS w W (sExpr ea)) :=
  (ps_expr ha hs).imp fun E σ H ⟨ρ, π, μ, sr, q⟩ => ⟨ρ, π, μ, sr, sr.post q fun d π1 v H1 μ1 g sr1 rd q1 => pos_nx q1 sr1⟩
theorem ds_ret (ha : PE X a (tD w W ea)) : PS X (.Return (some a) pos) (tS w W (sRet ea)) :=
  (ps_ret ha).imp fun E σ H ⟨ρ, π, μ, sr, q⟩ => ⟨ρ, π, μ, sr, sr.post q fun d π1 v H1 μ1 g sr1 rd q1 => q1 v H1 μ1 Grow.refl sr1.hr rd⟩
theorem ds_retN : PS X (.Return none pos) (tS w W sRetN) :=
  ps_retN.imp fun E σ H ⟨ρ, π, μ, sr, q⟩ => q .non H μ Grow.refl sr.hr (by unfold RD; rfl)
theorem ds_if (hc : PT X c (tT w W tc)) (ha : PSs X body (tS w W s)) (hb : PSs X orelse (tS w W t)) : PS X (.If c body orelse pos) (tS w W (sIf tc s t)) :=
  (ps_if hc ha hb).imp fun E σ H ⟨ρ, π, μ, sr, q⟩ => ⟨ρ, π, μ, sr, sr.post (β := Bool) (rel := rB) q fun k π1 v H1 μ1 g sr1 rd q1 => by
    cases rd
    cases k with
    | true => exact ⟨ρ, π1, μ1, sr1, q1⟩
    | false => exact ⟨ρ, π1, μ1, sr1, q1⟩⟩
theorem SR.set {ρ : RO} {π : PH} {σ : L2.St} {d : D} {v : V} (i : Nat) (s : SR w.K w.fa H μ ρ π σ) (r : RD w.K w.fa H μ d v) : SR w.K w.fa H μ (ρ.set i (some d)) π (σ.set i (some v)) := by
  refine ⟨s.hr, fun j x e => ?_, by simp [s.ln]⟩
  by_cases hj : i = j
  · subst hj
    by_cases hl : i < ρ.length
    · rw [List.getElem?_set_self hl] at e
      cases e
      exact ⟨v, List.getElem?_set_self (by rw [← s.ln]; exact hl), r⟩
    · rw [List.getElem?_eq_none (by simpa using hl)] at e; cases e
  · rw [List.getElem?_set_ne hj] at e ⊢
    exact s.lc j x e
theorem ds_set {i : Nat} {x : Str} {pos' : Pos} (hN : X.N.Nodup) (hi : X.N[i]? = some x) (hx : Loc X.env.scope x) (ha : PE X a (tD w W ea)) (hs : swapsWith a (some (.Name x pos')) pos.line X.env = pure false := by rfl) (hf : X.fn x = true ∨ X.env.scope.names.lookup x = some .local := by first | exact .inl rfl | exact .inr rfl | assumption) :
    PS X (.Assign [.Name x pos'] a pos) (tS w W (sSet i ea)) :=
  (ps_set hN hi hx ha hs hf).imp fun E σ H ⟨ρ, π, μ, sr, q⟩ => ⟨ρ, π, μ, sr, sr.post q fun d π1 v H1 μ1 g sr1 rd q1 => pos_nx q1 (sr1.set i rd)⟩
/-- targets -/
def But (vs : List Nat) (σ σ' : L2.St) : Prop := σ'.length = σ.length ∧ ∀ j : Nat, j ∉ vs → σ'[j]? = σ[j]?
theorem But.refl {vs : List Nat} {σ : L2.St} : But vs σ σ := ⟨rfl, fun _ _ => rfl⟩
theorem But.trans {vs us : List Nat} {σ σ1 σ2 : L2.St} (a : But vs σ σ1) (b : But us σ1 σ2) : But (vs ++ us) σ σ2 :=
  ⟨b.1.trans a.1, fun j h => (b.2 j fun z => h (List.mem_append_right _ z)).trans (a.2 j fun z => h (List.mem_append_left _ z))⟩
def tG (w : Wd) (us : List Nat) (tv : Tv) : TG := fun v σ H Q => ∃ d ρ π μ, SR w.K w.fa H μ ρ π σ ∧ RD w.K w.fa H μ d v ∧ match tv d ρ with
  | some ρ1 => ∀ σ', SR w.K w.fa H μ ρ1 π σ' → But us σ σ' → Q σ' H
  | none => False
def tGs (w : Wd) (us : List Nat) (tv : List D → RO → Option RO) : TGs := fun vs σ H Q => ∃ ds ρ π μ, SR w.K w.fa H μ ρ π σ ∧ RDs w.K w.fa H μ ds vs ∧ match tv ds ρ with
  | some ρ1 => ∀ σ', SR w.K w.fa H μ ρ1 π σ' → But us σ σ' → Q σ' H
  | none => False
theorem _root_.L2.PG.imp {X : Cx} {e : Expr} {t t' : TG} (h : PG X e t) (k : ∀ v σ H Q, t' v σ H Q → t v σ H Q) : PG X e t' := ⟨fun pins s σ H v u Q I r q => h.run pins s σ H v u Q I r (k v σ H Q q)⟩
theorem _root_.L2.PGs.imp {X : Cx} {e : List Expr} {t t' : TGs} (h : PGs X e t) (k : ∀ v σ H Q, t' v σ H Q → t v σ H Q) : PGs X e t' := ⟨fun pins s σ H v u Q I r q => h.run pins s σ H v u Q I r (k v σ H Q q)⟩
theorem dg_name {i : Nat} {x : Str} (hN : X.N.Nodup) (hi : X.N[i]? = some x) (hx : Loc X.env.scope x) (hf : X.fn x = true ∨ X.env.scope.names.lookup x = some .local := by first | exact .inl rfl | exact .inr rfl | assumption) : PG X (.Name x pos) (tG w [i] (vName i)) :=
  (pg_name hN hi hx hf).imp fun v σ H Q ⟨d, ρ, π, μ, sr, rd, q⟩ => q _ (sr.set i rd) ⟨by simp, fun j h => List.getElem?_set_ne (by simpa [eq_comm] using h)⟩
def vNil : List D → RO → Option RO := fun ds ρ => match ds with | [] => some ρ | _ => none
def vCons (tv : Tv) (ts : List D → RO → Option RO) : List D → RO → Option RO := fun ds ρ => match ds with | d :: r => (match tv d ρ with | some ρ1 => ts r ρ1 | none => none) | [] => none
def vTup (n : Nat) (ts : List D → RO → Option RO) : Tv := fun d ρ => match d with | .tup ds => if ds.length = n then ts ds ρ else none | _ => none
theorem dgs_nil : PGs X [] (tGs w [] vNil) := pgs_nil.imp fun vs σ H Q ⟨ds, ρ, π, μ, sr, rd, q⟩ => by
  cases ds with
  | nil => exact ⟨rd.nil_inv, q σ sr .refl⟩
  | cons d r => exact q.elim
theorem dgs_cons {us vs' : List Nat} {tv : Tv} {ts : List D → RO → Option RO} {es : List Expr} (h1 : PG X a (tG w us tv)) (h2 : PGs X es (tGs w vs' ts))
    (hs : (assignEach (a :: es) X.env).map (·.2) = assign a X.env :: (assignEach es X.env).map (·.2) := by rfl) : PGs X (a :: es) (tGs w (us ++ vs') (vCons tv ts)) :=
  (pgs_cons h1 h2 hs).imp fun vs σ H Q ⟨ds, ρ, π, μ, sr, rd, q⟩ => by
    cases ds with
    | nil => exact q.elim
    | cons d r =>
      obtain ⟨v, vr, rfl, r1, r2⟩ := rd.cons_inv
      refine ⟨v, vr, rfl, d, ρ, π, μ, sr, r1, ?_⟩
      simp only [vCons] at q
      cases e : tv d ρ with
      | none => rw [e] at q; exact q.elim
      | some ρ1 =>
        rw [e] at q
        refine fun σ' sr' b1 => ⟨r, ρ1, π, μ, sr', r2, ?_⟩
        cases e2 : ts r ρ1 with
        | none => simp only [e2] at q
        | some ρ2 => simp only [e2] at q; exact fun σ2 sr2 b2 => q σ2 sr2 (b1.trans b2)
theorem dg_tup (hK : X.K = w.K) {us : List Nat} {es : List Expr} {k n : Nat} {ts : List D → RO → Option RO} (hc : X.calm = true) (h : PGs X es (tGs w us ts))
    (hn : (assignEach es X.env).length = n := by rfl) (hst : (assignEach es X.env).findIdx? (·.1) = none := by rfl) : PG X (.Tuple es k pos) (tG w us (vTup n ts)) :=
  (pg_tup hc h hn hst).imp fun v σ H Q ⟨d, ρ, π, μ, sr, rd, q⟩ => by
    cases d with
    | tup ds =>
      unfold RD at rd
      obtain ⟨a, vs, rfl, ht, rs⟩ := rd
      simp only [vTup] at q
      split at q
      · rename_i hl
        split at hl
        · rename_i e
          exact ⟨a, vs, rfl, by rw [hK]; exact ht, by rw [rs.length]; exact e, ds, ρ, π, μ, sr, rs, by rw [hl]; exact q⟩
        · cases hl
      · exact q.elim
    | _ => exact q.elim
theorem ds_asg {us : List Nat} {tg : Expr} {tv : Tv} (ha : PE X a (tD w W ea)) (hg : PG X tg (tG w us tv)) (hs : swapsWithSole [tg] a pos.line X.env = pure false := by rfl) (hw : swappedStores [tg] a X.env = pure none := by rfl)
    (h1 : (assignEach [tg] X.env).map (·.2) = [assign tg X.env] := by rfl) : PS X (.Assign [tg] a pos) (tS w W (sAsg ea tv)) :=
  (ps_asg ha hg hs hw h1).imp fun E σ H ⟨ρ, π, μ, sr, q⟩ => ⟨ρ, π, μ, sr, sr.post q fun d π1 v H1 μ1 g sr1 rd q1 => by
    refine ⟨d, ρ, π1, μ1, sr1, rd, ?_⟩
    cases e : tv d ρ with
    | none => rw [e] at q1; exact q1.elim
    | some ρ1 => rw [e] at q1; exact fun σ' sr' _ => pos_nx q1 sr'⟩
/-- a, b = x, y with plain local names -/
def sPar (i j : Nat) (ea eb : Ev) : Sv := fun ρ π => (ea ρ π).then ρ fun x π1 => (eb ρ π1).then ρ fun y π2 => .nx ((ρ.set i (some x)).set j (some y)) π2
theorem ds_par {i j : Nat} {x y : Str} {b : Expr} {eb : Ev} {px py pt : Pos} {kt k2 pt2} (hc : X.calm = true) (hN : X.N.Nodup) (hi : X.N[i]? = some x) (hj : X.N[j]? = some y) (hij : i ≠ j)
    (hx : X.env.scope.names.lookup x = some .local) (hy : X.env.scope.names.lookup y = some .local) (ha : PE X a (tD w W ea)) (hb : PE X b (tD w W eb))
    (hw : swappedStores [.Tuple [.Name x px, .Name y py] kt pt] (.Tuple [a, b] k2 pt2) X.env = pure (some [x, y]))
    (hs : swapsWithSole [.Tuple [.Name x px, .Name y py] kt pt] (.Tuple [a, b] k2 pt2) pos.line X.env = pure false := by rfl)
    (hs1 : starEach [a, b] X.env = (false, eval a X.env) :: starEach [b] X.env := by rfl) (hs2 : starEach [b] X.env = (false, eval b X.env) :: starEach [] X.env := by rfl) :
    PS X (.Assign [.Tuple [.Name x px, .Name y py] kt pt] (.Tuple [a, b] k2 pt2) pos) (tS w W (sPar i j ea eb)) :=
  (ps_par hc hN hi hj hij hx hy (pa_cons ha (pa_cons hb pa_nil hs2) hs1) hw hs).imp fun E σ H ⟨ρ, π, μ, sr, q⟩ => ⟨ρ, π, μ, sr, sr.post q fun d π1 v H1 μ1 g sr1 rd q1 =>
    ⟨ρ, π1, μ1, sr1, sr1.post q1 fun d2 π2 v2 H2 μ2 g2 sr2 rd2 q2 => ⟨v, v2, rfl, pos_nx q2 ((sr2.set i (rd.grow g2)).set j rd2)⟩⟩⟩
end
end Lb
set_option Elab.async false
set_option linter.all false
set_option maxRecDepth 100000
set_option maxHeartbeats 4000000
namespace Lb
open PySem PySem.Spec PyProof.Rows L2

/-! ### a list or a tuple, walked -/
def SqK (k : Bool) (K : PySem.W.Frag) (H : Hp) (a : Addr) (xs : List V) : Prop := match k with
  | true => SqT K H a xs
  | false => SqL K H a xs
def itK (k : Bool) (h : Heap) (it a : Addr) (i : Nat) : Prop := match k with
  | true => h.IsTupleIter it a i
  | false => h.IsListIter it a i
def obK (k : Bool) (h : Heap) (a : Addr) (items : Array Value) : Prop := match k with
  | true => h.IsTuple a items
  | false => h.IsList a items
def itO (k : Bool) (a : Addr) : Obj := match k with
  | true => { cls := .type "tuple_iterator", data := .fields #[.ref a, .int 0 0] }
  | false => { cls := .type "list_iterator", data := .fields #[.ref a, .int 0 0] }
theorem itK_obj {k : Bool} {h : Heap} {it a : Addr} {i : Nat} (st : itK k h it a i) : ∃ o, h.get? it = some o ∧ ∀ v, o.data ≠ .cell v := by
  cases k with
  | true => obtain ⟨o, e, c, d⟩ := st; exact ⟨o, e, fun v z => by rw [d] at z; cases z⟩
  | false => obtain ⟨o, e, c, d⟩ := st; exact ⟨o, e, fun v z => by rw [d] at z; cases z⟩
theorem itK_at {k : Bool} {h h' : Heap} {it a : Addr} {i : Nat} (st : itK k h it a i) (f : ∀ o, h.get? it = some o → h'.get? it = some o) : itK k h' it a i := by
  cases k with
  | true => exact Heap.IsTupleIter.at st f
  | false => exact Heap.IsListIter.at st f
theorem begK (k : Bool) (a : Addr) (items : Array Value) : Begins (.ref a) (itO k a) fun h => obK k h a items := by
  cases k with
  | true => exact begins_tuple a items
  | false => exact begins_list a items
theorem itK_new {k : Bool} {h : Heap} {it a : Addr} (e : h.get? it = some (itO k a)) : itK k h it a 0 := by
  cases k with
  | true => exact ⟨_, e, rfl, rfl⟩
  | false => exact ⟨_, e, rfl, rfl⟩
theorem drawK {prog : Program} {w : World} {A : Around} (k : Bool) (hh : A.handled = none) (it l : Addr) (hne : l ≠ it) (items : Array Value) :
    Draws prog w A it [it, l] items.size (fun i v => items[i]? = some v) (fun i h => itK k h it l i ∧ obK k h l items) := by
  cases k with
  | true => exact Draws.tuple hh it l hne items
  | false => exact Draws.list hh it l hne items
section
variable {X : Cx} {pins : List (Addr × Obj)} {σ : L2.St} {H : Hp} {s : Shared} {a : Addr} {xs ys : List V} {k : Bool}
theorem inv_seqK (I : Inv X pins σ H s) (h : SqK k X.K H a xs) : ∃ its : List Value, Vals xs its ∧ obK k s.heap a its.toArray ∧ xs.length ≤ sizeLine ∧ a < s.heap.objs.size := by
  cases k with
  | true => obtain ⟨its, r, t, z⟩ := I.tuple h; exact ⟨its, r, t, z, t.lt⟩
  | false => obtain ⟨its, r, t, z⟩ := I.list h; exact ⟨its, r, t.isList, z, t.lt⟩
theorem inv_seqK_inj (I : Inv X pins σ H s) (h : SqK k X.K H a xs) (h' : SqK k X.K H a ys) : xs = ys := by
  cases k with
  | true => exact I.tuple_inj h h'
  | false => exact I.list_inj h h'
end
/-- a list or tuple walked -/
def ItK (k : Bool) (K : PySem.W.Frag) (a : Addr) : It :=
  ⟨fun i H => ∃ (xs : List V) (x : V), SqK k K H a xs ∧ xs[i]? = some x, fun i H x H' => H' = H ∧ ∀ xs, SqK k K H a xs → xs[i]? = some x, fun i H => ∃ xs : List V, SqK k K H a xs ∧ xs.length ≤ i⟩
theorem turnK {P : Program} {w : World} {K : PySem.W.Frag} {tg : Expr} (k : Bool) (a it : Addr) : Turn P w K tg (ItK k K a) [it] it (fun i h => itK k h it a i) := by
  cases k with
  | true => exact turn_tuple a it
  | false => exact turn_list a it
/-- zip of two -/
def Itz2 (k1 k2 : Bool) (K : PySem.W.Frag) (a b : Addr) : It :=
  ⟨fun i H => ∃ (xs ys : List V) (x y : V), SqK k1 K H a xs ∧ SqK k2 K H b ys ∧ xs[i]? = some x ∧ ys[i]? = some y,
    fun i H v H' => ∃ T x y, v = .ref T ∧ H T = none ∧ H' = upd H T (.tup [x, y]) ∧ (∀ xs, SqK k1 K H a xs → xs[i]? = some x) ∧ ∀ ys, SqK k2 K H b ys → ys[i]? = some y,
    fun i H => ∃ xs ys : List V, SqK k1 K H a xs ∧ SqK k2 K H b ys ∧ i ≤ xs.length ∧ i ≤ ys.length ∧ (xs.length = i ∨ ys.length = i)⟩
theorem turn_zip2 {P : Program} {w : World} {K : PySem.W.Frag} {elts : List Expr} {kk : Nat} {tpos : Pos} {a b z TI TO i1 i2 : Addr} (k1 k2 : Bool) (D : ZipSep2 z TI TO i1 i2 [i1, a] [i2, b]) (ha : a ≠ i1) (hb : b ≠ i2) :
    Turn P w K (.Tuple elts kk tpos) (Itz2 k1 k2 K a b) [z, TI, TO, i1, i2] z (fun i h => IsZip h z TI TO .none ∧ IsTupOf2 h TI (.ref i1) (.ref i2) ∧ (∃ x y, IsTupOf2 h TO x y) ∧ itK k1 h i1 a i ∧ itK k2 h i2 b i) where
  mem := by simp
  obj := fun i h st c hc => by
    obtain ⟨hz, hTI, ⟨x, y, hTO⟩, h1, h2⟩ := st
    have e' : c = z ∨ c = TI ∨ c = TO ∨ c = i1 ∨ c = i2 := by simpa using hc
    rcases e' with q | q | q | q | q
    · rw [q]; exact ⟨_, hz, fun v q => nomatch q⟩
    · rw [q]; exact ⟨_, hTI, fun v q => nomatch q⟩
    · rw [q]; exact ⟨_, hTO, fun v q => nomatch q⟩
    · rw [q]; exact itK_obj h1
    · rw [q]; exact itK_obj h2
  keep := fun i h h' st k => by
    obtain ⟨hz, hTI, ⟨x, y, hTO⟩, h1, h2⟩ := st
    exact ⟨k z (by simp) _ hz, k TI (by simp) _ hTI, ⟨x, y, k TO (by simp) _ hTO⟩, itK_at h1 fun o q => k i1 (by simp) o q, itK_at h2 fun o q => k i2 (by simp) o q⟩
  item := by
    intro X hP hw hK hc i pins s σ H E I hf st hg
    subst hP hw hK
    obtain ⟨hz, hTI, ⟨x0, y0, hTO⟩, h1, h2⟩ := st
    obtain ⟨xs, ys, x, y, hqx, hqy, hx, hy⟩ := hg
    obtain ⟨its, rv, p, _, _⟩ := inv_seqK I hqx
    obtain ⟨its2, rv2, p2, _, _⟩ := inv_seqK I hqy
    obtain ⟨u, hu, ru⟩ := rv.get hx
    obtain ⟨u2, hu2, ru2⟩ := rv2.get hy
    have hzl : z < s.heap.objs.size := Heap.lt_size hz
    have hh : X.A.in1.handled = none := I.ok.hd hc
    have l1 : i < its.toArray.size := by simpa using (List.getElem?_eq_some_iff.mp hu).1
    have l2 : i < its2.toArray.size := by simpa using (List.getElem?_eq_some_iff.mp hu2).1
    refine wpAny_pyNext_zipD2_item D (drawK k1 hh i1 a ha its.toArray) (drawK k2 hh i2 b hb its2.toArray) hz hTI hTO ⟨h1, p⟩ ⟨h2, p2⟩ l1 l2 fun v1 v2 h' tk q1 q2 z' TO' s1' s2' hT hsz hk => ?_
    have e1 : v1 = u := by
      have : its[i]? = some v1 := by simpa using q1
      rw [hu] at this; exact (Option.some.inj this).symm
    have e2 : v2 = u2 := by
      have : its2[i]? = some v2 := by simpa using q2
      rw [hu2] at this; exact (Option.some.inj this).symm
    subst e1 e2
    refine ⟨_, rfl, wpAny_letOwnedTupleGo_zip (s := { s with heap := h', toks := tk }) z' fun h'' z'' sb => ?_⟩
    have hT2 : h''.get? s.heap.objs.size = some { cls := .type "tuple", data := .seq #[v1, v2] } := (sb.2 _ (Nat.ne_of_gt hzl)).trans hT
    have new : ObjOk X.prog X.w (upd H s.heap.objs.size (.tup [x, y])) h'' s.heap.objs.size (.tup [x, y]) :=
      ⟨by show 2 ≤ sizeLine; rw [sizeLine_eq]; decide, [v1, v2], .cons ru (.cons ru2 .nil), ⟨_, hT2, rfl, _, rfl⟩⟩
    have I1 : Inv X pins σ (upd H s.heap.objs.size (.tup [x, y])) { s with heap := h'', toks := tk } :=
      I.turnedNew (t' := tk) (ch := [z, TI, TO, i1, i2]) (fun c o hb q => (sb.2 c (fun q' => hb (by simp [q']))).trans (hk c o (fun q' => hb (by simp [q'])) (fun q' => hb (by simp [q'])) (fun q' => hb (by simp [q'])) (fun q' => hb (by simp [q'])) q)) hf (Nat.le_refl _) new
    refine ⟨.ref s.heap.objs.size, _, I1, rfl, ⟨_, x, y, rfl, I.hok.fresh (Nat.le_refl _), rfl, fun l hl => by rw [inv_seqK_inj I hl hqx]; exact hx, fun l hl => by rw [inv_seqK_inj I hl hqy]; exact hy⟩, ⟨z'', ?_, ⟨v1, v2, ?_⟩, ?_, ?_⟩, fun c hcm => ?_⟩
    · exact (sb.2 _ D.TIz).trans (hk _ _ D.TIz D.TITO D.TIi1 D.TIi2 hTI)
    · exact (sb.2 _ D.TOz).trans TO'
    · exact itK_at s1'.1 fun o q => (sb.2 _ (Ne.symm D.zi1)).trans q
    · exact itK_at s2'.1 fun o q => (sb.2 _ (Ne.symm D.zi2)).trans q
    · have hlt : c < s.heap.objs.size := by
        have e' : c = z ∨ c = TI ∨ c = TO ∨ c = i1 ∨ c = i2 := by simpa using hcm
        rcases e' with q | q | q | q | q
        · rw [q]; exact hzl
        · rw [q]; exact Heap.lt_size hTI
        · rw [q]; exact Heap.lt_size hTO
        · rw [q]; obtain ⟨_, e1, _⟩ := itK_obj h1; exact Heap.lt_size e1
        · rw [q]; obtain ⟨_, e2, _⟩ := itK_obj h2; exact Heap.lt_size e2
      rw [upd_ne (Nat.ne_of_lt hlt)]
      exact (hf c hcm).1
  done := by
    intro X hP hw hK hc i pins s σ H E I hf st hg
    subst hP hw hK
    obtain ⟨hz, hTI, ⟨x0, y0, hTO⟩, h1, h2⟩ := st
    obtain ⟨xs, ys, hqx, hqy, le1, le2, hend⟩ := hg
    obtain ⟨its, rv, p, _, _⟩ := inv_seqK I hqx
    obtain ⟨its2, rv2, p2, _, _⟩ := inv_seqK I hqy
    have l1 := rv.length
    have l2 := rv2.length
    have hh : X.A.in1.handled = none := I.ok.hd hc
    exact wpAny_pyNext_zipD2_end D (drawK k1 hh i1 a ha its.toArray) (drawK k2 hh i2 b hb its2.toArray) hz hTI hTO ⟨h1, p⟩ ⟨h2, p2⟩ (by simp; omega) (by simp; omega) (by simp; omega) fun h' tk hk => ⟨rfl, I.turnedL (t' := tk) (ch := [z, TI, TO, i1, i2]) (fun c o hb q =>
      hk c o (fun q' => hb (by simp [q'])) (fun q' => hb (by simp [q'])) (fun q' => hb (by simp [q'])) (fun q' => hb (by simp [q'])) q) hf⟩
  self := fun A i s Q E st h => wpAny_pyIter_zip st.1 h
def iZip2 (K : PySem.W.Frag) (ta : TA) : TI := fun σ H R => ta σ H fun vs H1 => ∃ a b xs ys k1 k2, vs = [.ref a, .ref b] ∧ SqK k1 K H1 a xs ∧ SqK k2 K H1 b ys ∧ R (Itz2 k1 k2 K a b) H1
theorem pi_zip2 {X : Cx} {e e2 : Expr} {ta : TA} {p pos tpos : Pos} {elts : List Expr} {kk : Nat} (hg : Gl X "zip") (hm : X.mg "zip" = none) (ha : PA X [e, e2] ta)
    (hs : starEach [e, e2] X.env = (false, eval e X.env) :: starEach [e2] X.env := by rfl) (hpl : (backTo pos (starEach [e2] X.env)).any (·.1) = false := by rfl) :
    PI X (.Tuple elts kk tpos) (.Call (.Name "zip" p) [e, e2] [] pos) (iZip2 X.K ta) := by
  refine ⟨fun pins s σ H R I h => ?_⟩
  refine Call_ (ld_blt I hg hm PyProof.Rows.boot_zip (PyProof.Rows.callWith_type1 (thn (ha.run pos pins s σ H _ I h) fun us s1 ⟨vs, H1, I1, r1, q1⟩ => ?_) hs hpl))
  obtain ⟨a, b, xs, ys, k1, k2, ex, hqx, hqy, q⟩ := q1
  subst ex
  cases r1 with
  | cons r rr =>
    cases rr with
    | cons r' rr =>
      cases rr
      cases r
      cases r'
      obtain ⟨its, rv, p1, _, la⟩ := inv_seqK I1 hqx
      obtain ⟨its2, rv2, p2, _, lb⟩ := inv_seqK I1 hqy
      refine zip_begins2 (begK k1 a its.toArray) (begK k2 b its2.toArray) p1 p2 fun h' hz hTI hTO h1 h2 hsz hk => wpAny_pyIter_zip hz ?_
      have I2 : Inv X pins σ H1 { s1 with heap := h' } := I1.kept (t' := s1.toks) hk
      have S : ZipSep2 (s1.heap.objs.size + 4) (s1.heap.objs.size + 2) (s1.heap.objs.size + 3) s1.heap.objs.size (s1.heap.objs.size + 1) [s1.heap.objs.size, a] [s1.heap.objs.size + 1, b] :=
        zip_sep2 (fp1 := [a]) (fp2 := [b]) (fun c hc => by have e : c = a := by simpa using hc
                                                           rw [e]; exact la) (fun c hc => by have e : c = b := by simpa using hc
                                                                                             rw [e]; exact lb)
      have na : a ≠ s1.heap.objs.size := Nat.ne_of_lt la
      have nb : b ≠ s1.heap.objs.size + 1 := Nat.ne_of_lt (Nat.lt_succ_of_lt lb)
      refine ⟨s1.heap.objs.size + 4, [s1.heap.objs.size + 4, s1.heap.objs.size + 2, s1.heap.objs.size + 3, s1.heap.objs.size, s1.heap.objs.size + 1], _, _, H1, rfl, I2, turn_zip2 k1 k2 S na nb, ⟨hz, hTI, ⟨_, _, hTO⟩, itK_new h1, itK_new h2⟩, fun c hcm => ?_, q⟩
      have e' : c = s1.heap.objs.size + 4 ∨ c = s1.heap.objs.size + 2 ∨ c = s1.heap.objs.size + 3 ∨ c = s1.heap.objs.size ∨ c = s1.heap.objs.size + 1 := by simpa using hcm
      have hle : s1.heap.objs.size ≤ c := by
        rcases e' with z | z | z | z | z
        · rw [z]; exact Nat.le_add_right _ _
        · rw [z]; exact Nat.le_add_right _ _
        · rw [z]; exact Nat.le_add_right _ _
        · rw [z]; exact Nat.le_refl _
        · rw [z]; exact Nat.le_add_right _ _
      exact I1.fpOk hle (I1.hok.fresh hle)
/-- enumerate of a list or tuple, from 0 -/
def Ite2 (k : Bool) (K : PySem.W.Frag) (a : Addr) : It :=
  ⟨fun i H => ∃ (xs : List V) (x : V), SqK k K H a xs ∧ xs[i]? = some x, fun i H v H' => ∃ T x, v = .ref T ∧ H T = none ∧ H' = upd H T (.tup [.int (i : Nat), x]) ∧ ∀ xs, SqK k K H a xs → xs[i]? = some x, fun i H => ∃ xs : List V, SqK k K H a xs ∧ xs.length = i⟩
theorem turn_enum2 {P : Program} {w : World} {K : PySem.W.Frag} {elts : List Expr} {kk : Nat} {tpos : Pos} (k : Bool) (a e it : Addr) (ha : a ≠ it) (hea : e ≠ a) (hei : e ≠ it) :
    Turn P w K (.Tuple elts kk tpos) (Ite2 k K a) [e, it] e (fun i h => (∃ old, IsEnum h e it ((i : Nat) : Int) old) ∧ itK k h it a i) where
  mem := by simp
  obj := fun i h st b hb => by
    obtain ⟨⟨old, he⟩, hi⟩ := st
    have e' : b = e ∨ b = it := by simpa using hb
    rcases e' with z | z
    · rw [z]; exact ⟨_, he, fun v q => nomatch q⟩
    · rw [z]; exact itK_obj hi
  keep := fun i h h' st k => let ⟨⟨old, he⟩, hi⟩ := st; ⟨⟨old, k e (by simp) _ he⟩, itK_at hi fun o q => k it (by simp) o q⟩
  item := by
    intro X hP hw hK hc i pins s σ H E I hf st hg
    subst hP hw hK
    obtain ⟨⟨old, he⟩, hit⟩ := st
    obtain ⟨xs, x, hq, hx⟩ := hg
    obtain ⟨its, rv, p, hz, _⟩ := inv_seqK I hq
    obtain ⟨u, hu, ru⟩ := rv.get hx
    have hel : e < s.heap.objs.size := Heap.lt_size he
    have hil : it < s.heap.objs.size := by obtain ⟨_, q, _⟩ := itK_obj hit; exact Heap.lt_size q
    have hh : X.A.in1.handled = none := I.ok.hd hc
    have l1 : i < its.toArray.size := by simpa using (List.getElem?_eq_some_iff.mp hu).1
    refine wpAny_pyNext_enum_itemD (drawK k hh it a ha its.toArray) he ⟨hit, p⟩ l1 hei (by simp [hei, hea]) fun v h' tk q1 ho st' hT hsz hk => ?_
    have e1 : v = u := by
      have : its[i]? = some v := by simpa using q1
      rw [hu] at this; exact (Option.some.inj this).symm
    subst e1
    refine ⟨_, rfl, wpAny_letOwnedTupleGo_enum (s := { s with heap := h', toks := tk + 1 }) ho fun h'' he' sb => ?_⟩
    have hT2 : h''.get? s.heap.objs.size = some { cls := .type "tuple", data := .seq #[.int i tk, v] } := (sb.2 _ (Nat.ne_of_gt hel)).trans hT
    have new : ObjOk X.prog X.w (upd H s.heap.objs.size (.tup [.int (i : Nat), x])) h'' s.heap.objs.size (.tup [.int (i : Nat), x]) :=
      ⟨by show 2 ≤ sizeLine; rw [sizeLine_eq]; decide, [.int i tk, v], .cons ⟨_, rfl⟩ (.cons ru .nil), ⟨_, hT2, rfl, _, rfl⟩⟩
    have I1 : Inv X pins σ (upd H s.heap.objs.size (.tup [.int (i : Nat), x])) { s with heap := h'', toks := tk + 1 } :=
      I.turnedNew (ch := [e, it]) (fun b ob hb q => (sb.2 b (fun z => hb (by simp [z]))).trans (hk b ob (fun z => hb (by simp [z])) (fun z => hb (by simp [z])) q)) hf (Nat.le_refl _) new
    refine ⟨.ref s.heap.objs.size, _, I1, rfl, ⟨_, x, rfl, I.hok.fresh (Nat.le_refl _), rfl, fun ys hy => by rw [inv_seqK_inj I hy hq]; exact hx⟩, ⟨⟨v, ?_⟩, itK_at st'.1 fun o q => (sb.2 it (Ne.symm hei)).trans q⟩, fun b hb => ?_⟩
    · have e1 : ((i + 1 : Nat) : Int) = (i : Int) + 1 := by omega
      rw [e1]; exact he'
    · have hb' : b < s.heap.objs.size := by
        have e' : b = e ∨ b = it := by simpa using hb
        rcases e' with z | z
        · rw [z]; exact hel
        · rw [z]; exact hil
      rw [upd_ne (Nat.ne_of_lt hb')]
      exact (hf b hb).1
  done := by
    intro X hP hw hK hc i pins s σ H E I hf st hg
    subst hP hw hK
    obtain ⟨⟨old, he⟩, hit⟩ := st
    obtain ⟨xs, hq, hx⟩ := hg
    obtain ⟨its, rv, p, hz, _⟩ := inv_seqK I hq
    obtain ⟨f0, f1, f2, f3, f4, f5⟩ := hf it (by simp)
    have hh : X.A.in1.handled = none := I.ok.hd hc
    have hl := rv.length
    have el : its.toArray.size = i := by simp; omega
    have st2 : itK k s.heap it a its.toArray.size ∧ obK k s.heap a its.toArray := by rw [el]; exact ⟨hit, p⟩
    exact wpAny_pyNext_enum_endD (drawK k hh it a ha its.toArray) he st2 fun h' eb => ⟨rfl, I.turned (t' := s.toks) (fun b o hb q => eb b o hb q) f0 f1 f3 f4 f5⟩
  self := fun A i s Q E st h => let ⟨⟨_, he⟩, _⟩ := st; wpAny_pyIter_enum he h

set_option maxHeartbeats 4000000 in
theorem meets_enum1 {v : Value} {o : Obj} {H : Heap → Prop} (B : Begins v o H) :
    Meets (Builtin.«enumerate.__new__» ⟨[.type "enumerate", v], []⟩) (fun _ R s => H s.heap ∧
      R (.ok (.ret (.ref (s.heap.push o).objs.size))) { s with heap := (s.heap.push o).push { cls := .type "enumerate", data := .fields #[.none, .bool false, .ref s.heap.objs.size, rawInt 0, .none, .none] } }) :=
  .of_wp fun prog w A R s h => by
    obtain ⟨hp, g, d, tk, os⟩ := s; obtain ⟨h1, h⟩ := h
    have hsub := sub_enumerate
    have q1 : ∀ {A' : Around} {E : Value → Shared → Prop} {Q : Value → Shared → Prop}, Q (.ref hp.objs.size) ⟨hp.push o, g, d, tk, os⟩ → wpAny (model prog w) A' (pyIter v) Q E ⟨hp, g, d, tk, os⟩ :=
      fun q => B.iter prog w _ _ ⟨hp, g, d, tk, os⟩ _ h1 q
    wp_walk using q1
    refine wpAny_stack_any fun st => wpAny_pure ?_
    split
    · rename_i c _ _ _ _ _
      cases (c == Value.type "enumerate")
      · wp_walk using q1
        exact ⟨_, rfl, h⟩
      · wp_walk using q1
        exact ⟨_, rfl, h⟩
    · wp_walk using q1
      exact ⟨_, rfl, h⟩
theorem enum_begins1 {prog : Program} {w : World} {A : Around} {E : Value → Shared → Prop} {s : Shared} {v : Value} {o : Obj} {H : Heap → Prop} {Q : Value → Shared → Prop} (B : Begins v o H) (h1 : H s.heap)
    (h : ∀ h', IsEnum h' (s.heap.objs.size + 1) s.heap.objs.size 0 .none → h'.get? s.heap.objs.size = some o → h'.objs.size = s.heap.objs.size + 2 →
      (∀ b o, s.heap.get? b = some o → h'.get? b = some o) → Q (.ref (s.heap.objs.size + 1)) { s with heap := h' }) :
    wpAny (model prog w) A (call (.type "enumerate") [v]) Q E s := by
  refine callType_new F.called_enumerate (by decide) (F.typeCall_enumerate_1 _) (F.newCall_enumerate_1 _) (fun obj => F.args_object_init_2 obj _) F.entry_enumerate_new
    (meets_enum1 B) ⟨h1, ?_⟩
  have hz : (s.heap.push o).objs.size = s.heap.objs.size + 1 := Heap.size_push ..
  show _ ∧ _
  rw [hz]
  have he : IsEnum ((s.heap.push o).push { cls := .type "enumerate", data := .fields #[.none, .bool false, .ref s.heap.objs.size, rawInt 0, .none, .none] }) (s.heap.objs.size + 1) s.heap.objs.size 0 .none := by
    have := Heap.get?_push_size (s.heap.push o) (o := { cls := .type "enumerate", data := .fields #[.none, .bool false, .ref s.heap.objs.size, rawInt 0, .none, .none] }) rfl
    rw [hz] at this; exact this
  refine ⟨⟨_, he, rfl⟩, h _ he (Heap.get?_push_of_some _ (Heap.get?_push_size _ B.free)) (by rw [Heap.size_push, hz]) fun b o x => Heap.get?_push_of_some _ (Heap.get?_push_of_some _ x)⟩
def iEnum2 (K : PySem.W.Frag) (ta : TA) : TI := fun σ H R => ta σ H fun vs H1 => ∃ a xs k, vs = [.ref a] ∧ SqK k K H1 a xs ∧ R (Ite2 k K a) H1
theorem pi_enum2 {X : Cx} {e : Expr} {ta : TA} {p pos tpos : Pos} {elts : List Expr} {kk : Nat} (hg : Gl X "enumerate") (hm : X.mg "enumerate" = none) (ha : PA X [e] ta) (hs : starEach [e] X.env = [(false, eval e X.env)] := by rfl) :
    PI X (.Tuple elts kk tpos) (.Call (.Name "enumerate" p) [e] [] pos) (iEnum2 X.K ta) := by
  refine ⟨fun pins s σ H R I h => ?_⟩
  refine Call_ (ld_blt I hg hm boot_enumerate (PyProof.Rows.callWith_type1 (thn (ha.run pos pins s σ H _ I h) fun us s1 ⟨vs, H1, I1, r1, q1⟩ => ?_) hs rfl))
  obtain ⟨a, xs, k, ex, hq, q⟩ := q1
  subst ex
  cases r1 with
  | cons r rr =>
    cases rr
    cases r
    obtain ⟨its, rv, p', hz, la⟩ := inv_seqK I1 hq
    refine enum_begins1 (begK k a its.toArray) p' fun h' he hit hsz hk => wpAny_pyIter_enum he ?_
    have I2 : Inv X pins σ H1 { s1 with heap := h' } := I1.kept (t' := s1.toks) hk
    have n1 : a ≠ s1.heap.objs.size := Nat.ne_of_lt la
    have n2 : s1.heap.objs.size + 1 ≠ a := Nat.ne_of_gt (Nat.lt_succ_of_lt la)
    refine ⟨s1.heap.objs.size + 1, [s1.heap.objs.size + 1, s1.heap.objs.size], _, _, H1, rfl, I2, turn_enum2 k a (s1.heap.objs.size + 1) s1.heap.objs.size n1 n2 (Nat.succ_ne_self _), ⟨⟨.none, he⟩, itK_new hit⟩, fun b hb => ?_, q⟩
    have e' : b = s1.heap.objs.size + 1 ∨ b = s1.heap.objs.size := by simpa using hb
    have hle : s1.heap.objs.size ≤ b := by
      rcases e' with z | z
      · rw [z]; exact Nat.le_add_right _ _
      · rw [z]; exact Nat.le_refl _
    exact I1.fpOk hle (I1.hok.fresh hle)
/-- for x in e, e a list or a tuple -/
def iSeq2 (K : PySem.W.Frag) (tl : TE) : TI := fun σ H R => tl σ H fun x H1 => ∃ a xs k, x = .ref a ∧ SqK k K H1 a xs ∧ R (ItK k K a) H1
theorem pi_seq2 {X : Cx} {tg l : Expr} {tl : TE} (hl : PE X l tl) : PI X tg l (iSeq2 X.K tl) := by
  refine ⟨fun pins s σ H R I h => ?_⟩
  refine thn (hl.run pins s σ H _ I h) fun v s1 ⟨x, H1, I1, r1, q1⟩ => ?_
  obtain ⟨a, xs, k, e, hq, q⟩ := q1
  subst e
  cases r1
  obtain ⟨its, rv, p, hz, la⟩ := inv_seqK I1 hq
  refine (begK k a its.toArray).iter _ _ _ _ s1 _ p ?_
  refine ⟨s1.heap.objs.size, [s1.heap.objs.size], _, _, H1, rfl, I1.kept (t' := s1.toks) fun b o e => Heap.get?_push_of_some _ e, turnK k a _, itK_new (Heap.get?_push_size _ (begK k a its.toArray).free), fun b hb => ?_, q⟩
  have e : b = s1.heap.objs.size := by simpa using hb
  subst e
  exact I1.fpOk (Nat.le_refl _) (I1.hok.fresh (Nat.le_refl _))
end Lb
set_option Elab.async false
set_option linter.all false
set_option maxRecDepth 100000
set_option maxHeartbeats 4000000
namespace Lb
open PySem PySem.Spec PyProof.Rows L2

/-! ### the store grows, is written -/
section
variable {K : PySem.W.Frag} {fa : FA} {H : Hp} {μ : List Addr} {π : PH} {p : Addr} {o : HO}
theorem sqL_fresh {a : Addr} {xs : List V} (hp : H p = none) (h : SqL K H a xs) : SqL K (upd H p o) a xs := by
  rcases h with h | h
  · rcases h with h | ⟨u, h⟩
    · exact .inl (.inl (by rw [upd_ne (ne_of_none h hp)]; exact h))
    · exact .inl (.inr ⟨u, by rw [upd_ne (ne_of_none h hp)]; exact h⟩)
  · exact .inr h
theorem sqT_fresh {a : Addr} {xs : List V} (hp : H p = none) (h : SqT K H a xs) : SqT K (upd H p o) a xs := by
  rcases h with h | h
  · rcases h with h | ⟨u, h⟩
    · exact .inl (.inl (by rw [upd_ne (ne_of_none h hp)]; exact h))
    · exact .inl (.inr ⟨u, by rw [upd_ne (ne_of_none h hp)]; exact h⟩)
  · exact .inr h
theorem Grow.fresh (hp : H p = none) : Grow K H μ (upd H p o) μ := ⟨fun _ _ h => h, fun _ _ h => sqT_fresh hp h⟩
theorem RPO.fresh {a : Addr} {x : PO} (hp : H p = none) (h : RPO K fa H μ a x) : RPO K fa (upd H p o) μ a x := by
  cases x with
  | lst xs =>
    obtain ⟨vs, e, r⟩ := h
    exact ⟨vs, by rw [upd_ne (ne_of_none e hp)]; exact e, r.grow (Grow.fresh hp)⟩
  | scr xs =>
    obtain ⟨vs, e, r⟩ := h
    refine ⟨vs, ?_, r.grow (Grow.fresh hp)⟩
    rcases e with ⟨o', e⟩ | e
    · exact .inl ⟨o', by rw [upd_ne (ne_of_none e hp)]; exact e⟩
    · exact .inr e
  | dct es => exact h
  | xd f v =>
    obtain ⟨u, e, r⟩ := h
    exact ⟨u, by rw [upd_ne (ne_of_none e hp)]; exact e, r.grow (Grow.fresh hp)⟩
  | exv c m =>
    obtain ⟨C, e, r⟩ := h
    cases m with
    | none => exact ⟨C, e, by show upd H p o a = _; rw [upd_ne (ne_of_none r hp)]; exact r⟩
    | some k => obtain ⟨dx, e1, e2⟩ := r; exact ⟨C, e, dx, e1, by rw [upd_ne (ne_of_none e2 hp)]; exact e2⟩
theorem HR.fresh (h : HR K fa H μ π) (hp : H p = none) : HR K fa (upd H p o) μ π :=
  ⟨h.len, fun n x e => let ⟨a, e1, r⟩ := h.at' n x e; ⟨a, e1, r.fresh hp⟩, h.inj⟩
theorem Grow.more {q : Addr} : Grow K H μ H (μ ++ [q]) := ⟨fun n a e => by
  rw [List.getElem?_append_left (List.getElem?_eq_some_iff.mp e).1]; exact e, fun _ _ h => h⟩
theorem RPO.more {a q : Addr} {x : PO} (h : RPO K fa H μ a x) : RPO K fa H (μ ++ [q]) a x := by
  cases x with
  | lst xs => obtain ⟨vs, e, r⟩ := h; exact ⟨vs, e, r.grow Grow.more⟩
  | scr xs => obtain ⟨vs, e, r⟩ := h; exact ⟨vs, e, r.grow Grow.more⟩
  | dct es => exact h
  | xd f v => obtain ⟨u, e, r⟩ := h; exact ⟨u, e, r.grow Grow.more⟩
  | exv c m =>
    obtain ⟨C, e, r⟩ := h
    cases m with
    | none => exact ⟨C, e, r⟩
    | some k =>
      obtain ⟨dx, e1, e2⟩ := r
      refine ⟨C, e, dx, ?_, e2⟩
      rw [List.getElem?_append_left (List.getElem?_eq_some_iff.mp e1).1]; exact e1
theorem RPO.tracked {a : Addr} {x : PO} (h : RPO K fa H μ a x) (m : x.mut = true) : ∃ o, H a = some o := by
  cases x with
  | lst xs => obtain ⟨vs, e, _⟩ := h; exact ⟨_, e⟩
  | scr xs => cases m
  | dct es => exact h.elim
  | xd f v => cases m
  | exv c m => cases m
/-- a new list -/
theorem HR.push {vs : List V} {ds : List D} (h : HR K fa H μ π) (hp : H p = none) (r : RDs K fa H μ ds vs) : HR K fa (upd H p (.lst vs)) (μ ++ [p]) (π ++ [.lst ds]) := by
  refine ⟨by simp [h.len], fun n x e => ?_, fun n m a xs ys e1 e2 f1 f2 e3 e4 => ?_⟩
  · by_cases hn : n < π.length
    · rw [List.getElem?_append_left hn] at e
      obtain ⟨a, e1, q⟩ := h.at' n x e
      exact ⟨a, by rw [List.getElem?_append_left (by rw [h.len]; exact hn)]; exact e1, (q.fresh hp).more⟩
    · have hn' : n = π.length := by
        have := (List.getElem?_eq_some_iff.mp e).1
        simp at this; omega
      subst hn'
      simp at e
      subst e
      exact ⟨p, by rw [← h.len]; simp, vs, upd_same, (r.grow (Grow.fresh hp)).grow Grow.more⟩
  · have key : ∀ (k : Nat) (z : PO), (π ++ [PO.lst ds])[k]? = some z → z.mut = true → (μ ++ [p])[k]? = some a → (k < π.length ∧ π[k]? = some z ∧ μ[k]? = some a ∧ a ≠ p) ∨ (k = π.length ∧ a = p) := by
      intro k z ek fk em
      by_cases hk : k < π.length
      · rw [List.getElem?_append_left hk] at ek
        rw [List.getElem?_append_left (by rw [h.len]; exact hk)] at em
        obtain ⟨a', e1, e5⟩ := h.at' k _ ek
        rw [em] at e1; cases e1
        obtain ⟨o', e6⟩ := e5.tracked fk
        exact .inl ⟨hk, ek, em, ne_of_none e6 hp⟩
      · have hk' : k = π.length := by
          have := (List.getElem?_eq_some_iff.mp ek).1
          simp at this; omega
        subst hk'
        rw [← h.len] at em
        simp at em
        exact .inr ⟨rfl, em.symm⟩
    rcases key n xs e1 f1 e3 with ⟨a1, a2, a3, a4⟩ | ⟨a1, a2⟩ <;> rcases key m ys e2 f2 e4 with ⟨b1, b2, b3, b4⟩ | ⟨b1, b2⟩
    · exact h.inj n m a xs ys a2 b2 f1 f2 a3 b3
    · exact absurd b2 a4
    · exact absurd a2 b4
    · omega
theorem exo_lst {e C : Addr} {d : Option Addr} {xs : List V} : exo e C d ≠ HO.lst xs := fun z => by
  have y : HO.ext _ = HO.lst xs := z
  cases y
/-- a list is written -/
theorem Grow.write {vs us : List V} (e : H p = some (.lst us)) : Grow K H μ (upd H p (.lst vs)) μ := by
  refine ⟨fun _ _ h => h, fun a xs h => ?_⟩
  rcases h with h | h
  · rcases h with h | ⟨u, h⟩
    · exact .inl (.inl (by rw [upd_ne (ne_of h e (by intro z; cases z))]; exact h))
    · exact .inl (.inr ⟨u, by rw [upd_ne (ne_of h e (by intro z; cases z))]; exact h⟩)
  · exact .inr h
theorem HR.write {vs : List V} {ds es : List D} {n : Nat} (h : HR K fa H μ π) (hn : π[n]? = some (.lst es)) (hm : μ[n]? = some p) (r : RDs K fa H μ ds vs) : HR K fa (upd H p (.lst vs)) μ (π.set n (.lst ds)) := by
  obtain ⟨a, e0, us, e, _⟩ := h.at' n _ hn
  rw [hm] at e0; cases e0
  have nl : n < π.length := (List.getElem?_eq_some_iff.mp hn).1
  have g : Grow K H μ (upd H p (.lst vs)) μ := Grow.write e
  refine ⟨by simp [h.len], fun k x ek => ?_, fun k m a xs ys e1 e2 f1 f2 e3 e4 => ?_⟩
  · by_cases hk : n = k
    · subst hk
      rw [List.getElem?_set_self nl] at ek
      cases ek
      exact ⟨p, hm, vs, upd_same, r.grow g⟩
    · rw [List.getElem?_set_ne hk] at ek
      obtain ⟨a, e1, q⟩ := h.at' k x ek
      refine ⟨a, e1, ?_⟩
      cases x with
      | lst xs =>
        obtain ⟨ws, e2, r2⟩ := q
        have na : a ≠ p := fun z => hk (h.inj n k p _ _ hn ek rfl rfl hm (z ▸ e1))
        exact ⟨ws, by rw [upd_ne na]; exact e2, r2.grow g⟩
      | scr xs =>
        obtain ⟨ws, e2, r2⟩ := q
        refine ⟨ws, ?_, r2.grow g⟩
        rcases e2 with ⟨u, e2⟩ | e2
        · exact .inl ⟨u, by rw [upd_ne (ne_of e2 e (by intro z; cases z))]; exact e2⟩
        · exact .inr e2
      | dct es => exact q
      | xd f v =>
        obtain ⟨u, e2, r2⟩ := q
        exact ⟨u, by rw [upd_ne (ne_of e2 e (by intro z; cases z))]; exact e2, r2.grow g⟩
      | exv c m =>
        obtain ⟨C, ec, r2⟩ := q
        cases m with
        | none => exact ⟨C, ec, by show upd H p _ a = _; rw [upd_ne (ne_of r2 e exo_lst)]; exact r2⟩
        | some k => obtain ⟨dx, q1, q2⟩ := r2; exact ⟨C, ec, dx, q1, by rw [upd_ne (ne_of q2 e exo_lst)]; exact q2⟩
  · have key : ∀ (j : Nat) (z : PO), (π.set n (PO.lst ds))[j]? = some z → z.mut = true → ∃ y, π[j]? = some y ∧ y.mut = true := by
      intro j z ej fj
      by_cases hj : n = j
      · subst hj; exact ⟨_, hn, rfl⟩
      · rw [List.getElem?_set_ne hj] at ej; exact ⟨z, ej, fj⟩
    obtain ⟨w1, g1, m1⟩ := key k xs e1 f1
    obtain ⟨w2, g2, m2⟩ := key m ys e2 f2
    exact h.inj k m a w1 w2 g1 g2 m1 m2 e3 e4
end
end Lb
set_option Elab.async false
set_option linter.all false
set_option maxRecDepth 100000
set_option maxHeartbeats 4000000
namespace Lb
open PySem PySem.Spec PyProof.Rows L2

/-! ### what is walked -/
inductive Stp where
  | stop | item (d : D) | bad
abbrev Src := Nat → PH → Stp
abbrev Iv := RO → PH → R Src
def ItOk (w : Wd) (H : Hp) (μ : List Addr) (src : Src) (J : It) : Prop := ∀ (i : Nat) (H1 : Hp) (μ1 : List Addr) (π : PH), Grow w.K H μ H1 μ1 → HR w.K w.fa H1 μ1 π → match src i π with
  | .stop => J.stop i H1
  | .item d => J.go i H1 ∧ ∀ x H2, J.yld i H1 x H2 → Grow w.K H1 μ1 H2 μ1 ∧ HR w.K w.fa H2 μ1 π ∧ RD w.K w.fa H2 μ1 d x
  | .bad => True
def tI (w : Wd) (W : WX) (a : Iv) : TI := fun σ H R => ∃ ρ π μ, SR w.K w.fa H μ ρ π σ ∧ Po w W σ (ItOk w) H μ (a ρ π) R
theorem _root_.L2.PI.imp {X : Cx} {tg e : Expr} {t t' : TI} (h : PI X tg e t) (k : ∀ σ H R, t' σ H R → t σ H R) : PI X tg e t' := ⟨fun pins s σ H R I q => h.run pins s σ H R I (k σ H R q)⟩
/-- the items of a list or a tuple as it stands -/
def items (d : D) (π : PH) : Option (List D) := match d with
  | .tup ds => some ds
  | .ref n => match π[n]? with
    | some (.lst xs) => some xs
    | some (.scr xs) => some xs
    | _ => none
  | _ => none
def kindD (d : D) : Bool := match d with | .tup _ => true | _ => false
section
variable {w : Wd} {H : Hp} {μ : List Addr} {π : PH}
theorem items_ok (hr : HR w.K w.fa H μ π) {d : D} {v : V} {ds : List D} (r : RD w.K w.fa H μ d v) (e : items d π = some ds) : ∃ a vs, v = .ref a ∧ SqK (kindD d) w.K H a vs ∧ RDs w.K w.fa H μ ds vs := by
  cases d with
  | tup xs =>
    unfold RD at r
    obtain ⟨a, vs, rfl, t, q⟩ := r
    simp only [items, Option.some.injEq] at e
    subst e
    exact ⟨a, vs, rfl, t, q⟩
  | ref n =>
    unfold RD at r
    obtain ⟨a, rfl, hm⟩ := r
    simp only [items] at e
    split at e
    · rename_i xs hn
      cases e
      obtain ⟨a', e1, vs, e2, q⟩ := hr.at' n _ hn
      rw [hm] at e1; cases e1
      exact ⟨a, vs, rfl, SqL.of e2, q⟩
    · rename_i xs hn
      cases e
      obtain ⟨a', e1, vs, e2, q⟩ := hr.at' n _ hn
      rw [hm] at e1; cases e1
      exact ⟨a, vs, rfl, e2.sq, q⟩
    · cases e
  | _ => cases e
/-- .. told of the very address -/
theorem items_at {d : D} {a : Addr} (hr : HR w.K w.fa H μ π) {ds : List D} (r : RD w.K w.fa H μ d (.ref a)) (e : items d π = some ds) : ∃ vs, SqK (kindD d) w.K H a vs ∧ RDs w.K w.fa H μ ds vs := by
  obtain ⟨a', vs, e1, h1, h2⟩ := items_ok hr r e
  cases e1
  exact ⟨vs, h1, h2⟩
end
def srcSeq (d : D) : Src := fun i π => match items d π with
  | some ds => match ds[i]? with
    | some x => .item x
    | none => .stop
  | none => .bad
def iSeq (e : Ev) : Iv := fun ρ π => (e ρ π).bind fun d π1 => match items d π1 with
  | some _ => .ok (srcSeq d) π1
  | none => .bad
section
variable {X : Cx} {w : Wd} {W : WX} {pos p tpos : Pos} {a b c tg : Expr} {ea eb : Ev} {aa : Av}
theorem itok_seq {H : Hp} {μ : List Addr} {d : D} {ad : Addr} (r : RD w.K w.fa H μ d (.ref ad)) : ItOk w H μ (srcSeq d) (ItK (kindD d) w.K ad) := by
  intro i H1 μ1 π g hr
  cases e : items d π with
  | none => simp [srcSeq, e]
  | some ds =>
    obtain ⟨vs, h1, h2⟩ := items_at hr (r.grow g) e
    cases e2 : ds[i]? with
    | none =>
      simp only [srcSeq, e, e2]
      exact ⟨vs, h1, by rw [h2.length]; exact List.getElem?_eq_none_iff.mp e2⟩
    | some x =>
      simp only [srcSeq, e, e2]
      obtain ⟨v, q1, q2⟩ := h2.get e2
      refine ⟨⟨vs, v, h1, q1⟩, fun y H2 hy => ?_⟩
      obtain ⟨rfl, hy⟩ := hy
      have : y = v := Option.some.inj ((hy vs h1).symm.trans q1)
      subst this
      exact ⟨Grow.refl, hr, q2⟩
theorem di_seq (hK : X.K = w.K) (ha : PE X a (tD w W ea)) : PI X tg a (tI w W (iSeq ea)) := by
  refine (pi_seq2 ha).imp fun σ H R ⟨ρ, π, μ, sr, q⟩ => ⟨ρ, π, μ, sr, po_bind q fun d π1 v H1 μ1 g hr rd q1 => ?_⟩
  split at q1
  · rename_i ds e
    obtain ⟨ad, vs, rfl, h1, h2⟩ := items_ok hr rd e
    rw [hK]
    exact ⟨ad, vs, kindD d, rfl, h1, po_ok q1 hr (itok_seq rd)⟩
  · exact q1.elim
/-- zip of two -/
def srcZip (d1 d2 : D) : Src := fun i π => match items d1 π, items d2 π with
  | some xs, some ys => match xs[i]?, ys[i]? with
    | some x, some y => .item (.tup [x, y])
    | _, _ => if i ≤ xs.length ∧ i ≤ ys.length then .stop else .bad
  | _, _ => .bad
def iZip (aa : Av) : Iv := fun ρ π => (aa ρ π).bind fun ds π1 => match ds with
  | [d1, d2] => match items d1 π1, items d2 π1 with
    | some _, some _ => .ok (srcZip d1 d2) π1
    | _, _ => .bad
  | _ => .bad
theorem rd_tup_fresh {H : Hp} {μ : List Addr} {T : Addr} {ds : List D} {vs : List V} (hT : H T = none) (r : RDs w.K w.fa H μ ds vs) : RD w.K w.fa (upd H T (.tup vs)) μ (.tup ds) (.ref T) := by
  unfold RD
  exact ⟨T, vs, rfl, SqT.of upd_same, r.grow (Grow.fresh hT)⟩
theorem itok_zip {H : Hp} {μ : List Addr} {d1 d2 : D} {a1 a2 : Addr} (r1 : RD w.K w.fa H μ d1 (.ref a1)) (r2 : RD w.K w.fa H μ d2 (.ref a2)) : ItOk w H μ (srcZip d1 d2) (Itz2 (kindD d1) (kindD d2) w.K a1 a2) := by
  intro i H1 μ1 π g hr
  cases e1 : items d1 π with
  | none => simp [srcZip, e1]
  | some xs =>
    cases e2 : items d2 π with
    | none => simp [srcZip, e1, e2]
    | some ys =>
      obtain ⟨vs, h1, h2⟩ := items_at hr (r1.grow g) e1
      obtain ⟨us, k1, k2⟩ := items_at hr (r2.grow g) e2
      have stopc : ∀ (o1 : xs.length ≤ i ∨ ys.length ≤ i), (match (if i ≤ xs.length ∧ i ≤ ys.length then Stp.stop else Stp.bad) with
          | .stop => (Itz2 (kindD d1) (kindD d2) w.K a1 a2).stop i H1
          | .item d => (Itz2 (kindD d1) (kindD d2) w.K a1 a2).go i H1 ∧ ∀ x H2, (Itz2 (kindD d1) (kindD d2) w.K a1 a2).yld i H1 x H2 → Grow w.K H1 μ1 H2 μ1 ∧ HR w.K w.fa H2 μ1 π ∧ RD w.K w.fa H2 μ1 d x
          | .bad => True) := by
        intro o1
        by_cases hc : i ≤ xs.length ∧ i ≤ ys.length
        · rw [if_pos hc]
          have l1 := h2.length
          have l2 := k2.length
          exact ⟨vs, us, h1, k1, by omega, by omega, by omega⟩
        · rw [if_neg hc]; trivial
      cases f1 : xs[i]? with
      | none =>
        simp only [srcZip, e1, e2, f1]
        exact stopc (.inl (List.getElem?_eq_none_iff.mp f1))
      | some x =>
        cases f2 : ys[i]? with
        | none =>
          simp only [srcZip, e1, e2, f1, f2]
          exact stopc (.inr (List.getElem?_eq_none_iff.mp f2))
        | some y =>
          simp only [srcZip, e1, e2, f1, f2]
          obtain ⟨v, q1, q2⟩ := h2.get f1
          obtain ⟨u, q3, q4⟩ := k2.get f2
          refine ⟨⟨vs, us, v, u, h1, k1, q1, q3⟩, fun z H2 hz => ?_⟩
          obtain ⟨T, x', y', rfl, hT, rfl, hx, hy⟩ := hz
          have ex : x' = v := Option.some.inj ((hx vs h1).symm.trans q1)
          have ey : y' = u := Option.some.inj ((hy us k1).symm.trans q3)
          subst ex ey
          exact ⟨Grow.fresh hT, hr.fresh hT, rd_tup_fresh hT (.cons q2 (.cons q4 .nil))⟩
theorem di_zip {elts : List Expr} {kk : Nat} (hK : X.K = w.K) (hg : Gl X "zip") (hm : X.mg "zip" = none) (ha : PA X [a, b] (tA w W aa))
    (hs : starEach [a, b] X.env = (false, eval a X.env) :: starEach [b] X.env := by rfl) (hpl : (backTo pos (starEach [b] X.env)).any (·.1) = false := by rfl) :
    PI X (.Tuple elts kk tpos) (.Call (.Name "zip" p) [a, b] [] pos) (tI w W (iZip aa)) := by
  refine (pi_zip2 hg hm ha hs hpl).imp fun σ H R ⟨ρ, π, μ, sr, q⟩ => ⟨ρ, π, μ, sr, po_bind q fun ds π1 vs H1 μ1 g hr rd q1 => ?_⟩
  split at q1
  · rename_i d1 d2
    obtain ⟨v1, r1, rfl, rd1, rr⟩ := rd.cons_inv
    obtain ⟨v2, r2, rfl, rd2, rr2⟩ := rr.cons_inv
    cases rr2.nil_inv
    split at q1
    · rename_i xs ys e1 e2
      obtain ⟨a1, us1, rfl, h1, h2⟩ := items_ok hr rd1 e1
      obtain ⟨a2, us2, rfl, k1, k2⟩ := items_ok hr rd2 e2
      rw [hK]
      exact ⟨a1, a2, us1, us2, kindD d1, kindD d2, rfl, h1, k1, po_ok q1 hr (itok_zip rd1 rd2)⟩
    · exact q1.elim
  · exact q1.elim
/-- enumerate -/
def srcEnum (d : D) : Src := fun i π => match items d π with
  | some ds => match ds[i]? with
    | some x => .item (.tup [.int (i : Nat), x])
    | none => if ds.length = i then .stop else .bad
  | none => .bad
def iEnum (aa : Av) : Iv := fun ρ π => (aa ρ π).bind fun ds π1 => match ds with
  | [d] => match items d π1 with
    | some _ => .ok (srcEnum d) π1
    | none => .bad
  | _ => .bad
theorem itok_enum {H : Hp} {μ : List Addr} {d : D} {ad : Addr} (r : RD w.K w.fa H μ d (.ref ad)) : ItOk w H μ (srcEnum d) (Ite2 (kindD d) w.K ad) := by
  intro i H1 μ1 π g hr
  cases e : items d π with
  | none => simp [srcEnum, e]
  | some ds =>
    obtain ⟨vs, h1, h2⟩ := items_at hr (r.grow g) e
    cases e2 : ds[i]? with
    | none =>
      simp only [srcEnum, e, e2]
      by_cases hl : ds.length = i
      · rw [if_pos hl]; exact ⟨vs, h1, by rw [h2.length]; exact hl⟩
      · rw [if_neg hl]; trivial
    | some x =>
      simp only [srcEnum, e, e2]
      obtain ⟨v, q1, q2⟩ := h2.get e2
      refine ⟨⟨vs, v, h1, q1⟩, fun y H2 hy => ?_⟩
      obtain ⟨T, x', rfl, hT, rfl, hx⟩ := hy
      have : x' = v := Option.some.inj ((hx vs h1).symm.trans q1)
      subst this
      exact ⟨Grow.fresh hT, hr.fresh hT, rd_tup_fresh hT (.cons (by unfold RD; rfl) (.cons q2 .nil))⟩
theorem di_enum {elts : List Expr} {kk : Nat} (hK : X.K = w.K) (hg : Gl X "enumerate") (hm : X.mg "enumerate" = none) (ha : PA X [a] (tA w W aa)) (hs : starEach [a] X.env = [(false, eval a X.env)] := by rfl) :
    PI X (.Tuple elts kk tpos) (.Call (.Name "enumerate" p) [a] [] pos) (tI w W (iEnum aa)) := by
  refine (pi_enum2 hg hm ha hs).imp fun σ H R ⟨ρ, π, μ, sr, q⟩ => ⟨ρ, π, μ, sr, po_bind q fun ds π1 vs H1 μ1 g hr rd q1 => ?_⟩
  split at q1
  · rename_i d1
    obtain ⟨v1, r1, rfl, rd1, rr⟩ := rd.cons_inv
    cases rr.nil_inv
    split at q1
    · rename_i xs e1
      obtain ⟨a1, us1, rfl, h1, h2⟩ := items_ok hr rd1 e1
      rw [hK]
      exact ⟨a1, us1, kindD d1, rfl, h1, po_ok q1 hr (itok_enum rd1)⟩
    · exact q1.elim
  · exact q1.elim
/-- range -/
def srcRng (lo : Int) (n : Nat) : Src := fun i _ => if i < n then .item (.int (lo + i)) else .stop
theorem itok_rng {H : Hp} {μ : List Addr} {lo : Int} {n : Nat} : ItOk w H μ (srcRng lo n) (Itr lo n) := by
  intro i H1 μ1 π g hr
  by_cases h : i < n
  · simp only [srcRng, if_pos h]
    refine ⟨h, fun y H2 hy => ?_⟩
    obtain ⟨rfl, rfl⟩ := hy
    exact ⟨Grow.refl, hr, by unfold RD; rfl⟩
  · simp only [srcRng, if_neg h]
    exact Nat.le_of_not_lt h
def smallI (i : Int) : Bool := decide (-(2 ^ 62) ≤ i) && decide (i < 2 ^ 62)
theorem smallI_ok {i : Int} (h : smallI i = true) : -(2 ^ 62) ≤ i ∧ i < 2 ^ 62 := by
  simp only [smallI, Bool.and_eq_true, decide_eq_true_eq] at h; exact h
def iRng (aa : Av) : Iv := fun ρ π => (aa ρ π).bind fun ds π1 => match ds with
  | [.int j] => if smallI j then .ok (srcRng 0 j.toNat) π1 else .bad
  | _ => .bad
def iRngB (aa : Av) : Iv := fun ρ π => (aa ρ π).bind fun ds π1 => match ds with
  | [.int i, .int j] => if smallI i && smallI j then .ok (srcRng i (j - i).toNat) π1 else .bad
  | _ => .bad
theorem di_rng (hg : Gl X "range") (hm : X.mg "range" = none) (ha : PA X [a] (tA w W aa)) (hs : starEach [a] X.env = [(false, eval a X.env)] := by rfl) : PI X tg (.Call (.Name "range" p) [a] [] pos) (tI w W (iRng aa)) := by
  refine (pi_range1 hg hm ha hs).imp fun σ H R ⟨ρ, π, μ, sr, q⟩ => ⟨ρ, π, μ, sr, po_bind q fun ds π1 vs H1 μ1 g hr rd q1 => ?_⟩
  split at q1
  · rename_i j
    obtain ⟨v1, r1, rfl, rd1, rr⟩ := rd.cons_inv
    cases rr.nil_inv
    unfold RD at rd1
    subst rd1
    split at q1
    · rename_i hs
      have := smallI_ok hs
      exact ⟨j, rfl, this.1, this.2, po_ok q1 hr itok_rng⟩
    · exact q1.elim
  · exact q1.elim
theorem di_rngB (hg : Gl X "range") (hm : X.mg "range" = none) (ha : PA X [a, b] (tA w W aa)) (hs : starEach [a, b] X.env = [(false, eval a X.env), (false, eval b X.env)] := by rfl) (hs2 : starEach [b] X.env = [(false, eval b X.env)] := by rfl) : PI X tg (.Call (.Name "range" p) [a, b] [] pos) (tI w W (iRngB aa)) := by
  refine (pi_range2 hg hm ha hs hs2).imp fun σ H R ⟨ρ, π, μ, sr, q⟩ => ⟨ρ, π, μ, sr, po_bind q fun ds π1 vs H1 μ1 g hr rd q1 => ?_⟩
  split at q1
  · rename_i i j
    obtain ⟨v1, r1, rfl, rd1, rr⟩ := rd.cons_inv
    obtain ⟨v2, r2, rfl, rd2, rr2⟩ := rr.cons_inv
    cases rr2.nil_inv
    unfold RD at rd1 rd2
    subst rd1 rd2
    split at q1
    · rename_i hs
      rw [Bool.and_eq_true] at hs
      have h1 := smallI_ok hs.1
      have h2 := smallI_ok hs.2
      exact ⟨i, j, rfl, ⟨h1.1, h1.2, h2.1, h2.2⟩, po_ok q1 hr itok_rng⟩
    · exact q1.elim
  · exact q1.elim
end

/-! ### loops -/
def FU : Nat := 2 ^ 250
def forL (src : Src) (tv : Tv) (body : Sv) : Nat → Nat → RO → PH → RS
  | 0, _, _, _ => .bad
  | f + 1, i, ρ, π => match src i π with
    | .stop => .nx ρ π
    | .bad => .bad
    | .item d => match tv d ρ with
      | none => .bad
      | some ρ1 => match body ρ1 π with
        | .nx ρ2 π2 => forL src tv body f (i + 1) ρ2 π2
        | .ct ρ2 π2 => forL src tv body f (i + 1) ρ2 π2
        | .bk ρ2 π2 => .nx ρ2 π2
        | .rt d π2 => .rt d π2
        | .exc e ρ2 π2 => .exc e ρ2 π2
        | .bad => .bad
def sFor (iv : Iv) (tv : Tv) (body : Sv) : Sv := fun ρ π => (iv ρ π).then ρ fun src π1 => forL src tv body FU 0 ρ π1
def whL (tc : RO → PH → R Bool) (body : Sv) : Nat → RO → PH → RS
  | 0, _, _ => .bad
  | f + 1, ρ, π => (tc ρ π).then ρ fun k π1 => match k with
    | false => .nx ρ π1
    | true => match body ρ π1 with
      | .nx ρ2 π2 => whL tc body f ρ2 π2
      | .ct ρ2 π2 => whL tc body f ρ2 π2
      | .bk ρ2 π2 => .nx ρ2 π2
      | .rt d π2 => .rt d π2
      | .exc e ρ2 π2 => .exc e ρ2 π2
      | .bad => .bad
def sWhile (tc : RO → PH → R Bool) (body : Sv) : Sv := fun ρ π => whL tc body FU ρ π
section
variable {X : Cx} {w : Wd} {W : WX} {pos : Pos} {tg iter c : Expr} {body : List Stmt} {iv : Iv} {us : List Nat} {tv : Tv} {sb : Sv} {tc : RO → PH → R Bool}
theorem ds_for (hp : PassesOwn (model X.prog X.w) X.A X.env X.xe) (hc : X.calm = true) (hi : PI X tg iter (tI w W iv)) (hg : PG X tg (tG w us tv)) (hb : PSs X body (tS w W sb))
    (hs : ∀ x, foldedSetIterable iter X.env x = pure x := by intro _; rfl) : PS X (.For tg iter body [] pos) (tS w W (sFor iv tv sb)) := by
  refine (ps_for hp hc hi hg hb hs).imp fun E σ H ⟨ρ, π, μ, sr, q⟩ => ⟨ρ, π, μ, sr, sr.post q fun src π1 J H1 μ1 g sr1 ok q1 => ?_⟩
  refine ⟨fun i m σ2 H2 => ∃ ρ2 π2 μ2, Grow w.K H1 μ1 H2 μ2 ∧ SR w.K w.fa H2 μ2 ρ2 π2 σ2 ∧ PoS w W E H2 μ2 (forL src tv sb m i ρ2 π2), ⟨FU, ρ, π1, μ1, Grow.refl, sr1, q1⟩, ?_⟩
  rintro i m σ2 H2 ⟨ρ2, π2, μ2, g2, sr2, q2⟩
  have okI := ok i H2 μ2 π2 g2 sr2.hr
  cases m with
  | zero => exact q2.elim
  | succ m =>
    simp only [forL] at q2
    cases e : src i π2 with
    | stop =>
      rw [e] at okI q2
      exact .inl ⟨okI, pos_nx q2 sr2⟩
    | bad => rw [e] at q2; exact q2.elim
    | item d =>
      rw [e] at okI q2
      simp only at okI q2
      refine .inr ⟨okI.1, fun σ' H' => ∃ ρ' π' μ', Grow w.K H1 μ1 H' μ' ∧ SR w.K w.fa H' μ' ρ' π' σ' ∧ PoS w W E H' μ' (forL src tv sb m (i + 1) ρ' π'), fun σ' H' ⟨ρ', π', μ', g', s', p'⟩ => ⟨m, Nat.lt_succ_self m, ρ', π', μ', g', s', p'⟩, fun x H3 hy => ?_⟩
      obtain ⟨g3, hr3, rd3⟩ := okI.2 x H3 hy
      refine ⟨d, ρ2, π2, μ2, sr2.grow g3 hr3, rd3, ?_⟩
      cases et : tv d ρ2 with
      | none => rw [et] at q2; exact q2.elim
      | some ρ3 =>
        rw [et] at q2
        refine fun σ4 sr4 _ => ⟨ρ3, π2, μ2, sr4, ?_⟩
        have g23 : Grow w.K H1 μ1 H3 μ2 := g2.trans g3
        have q2' := PoS.grow g3 q2
        simp only at q2'
        cases eb : sb ρ3 π2 with
        | nx ρ5 π5 =>
          rw [eb] at q2'
          exact fun σ' H' μ' g' s' => ⟨ρ5, π5, μ', g23.trans g', s', PoS.grow g' q2'⟩
        | ct ρ5 π5 =>
          rw [eb] at q2'
          exact fun σ' H' μ' g' s' => ⟨ρ5, π5, μ', g23.trans g', s', PoS.grow g' q2'⟩
        | bk ρ5 π5 => rw [eb] at q2'; exact q2'
        | rt d5 π5 => rw [eb] at q2'; exact q2'
        | exc x5 ρ5 π5 => rw [eb] at q2'; exact q2'
        | bad => rw [eb] at q2'; exact q2'
theorem ds_while (hp : PassesOwn (model X.prog X.w) X.A X.env X.xe) (hc : PT X c (tT w W tc)) (hb : PSs X body (tS w W sb)) : PS X (.While c body [] pos) (tS w W (sWhile tc sb)) := by
  refine (ps_while hp hc hb).imp fun E σ H ⟨ρ, π, μ, sr, q⟩ => ?_
  refine ⟨fun m σ2 H2 => ∃ ρ2 π2 μ2, SR w.K w.fa H2 μ2 ρ2 π2 σ2 ∧ PoS w W E H2 μ2 (whL tc sb m ρ2 π2), ⟨FU, ρ, π, μ, sr, q⟩, ?_⟩
  rintro m σ2 H2 ⟨ρ2, π2, μ2, sr2, q2⟩
  cases m with
  | zero => exact q2.elim
  | succ m =>
    simp only [whL] at q2
    refine ⟨ρ2, π2, μ2, sr2, sr2.post (β := Bool) (rel := rB) q2 fun k π3 k' H3 μ3 g3 sr3 rd q3 => ?_⟩
    cases rd
    cases k with
    | false => exact pos_nx q3 sr3
    | true =>
      rw [if_pos rfl]
      refine ⟨fun σ' H' => ∃ ρ' π' μ', SR w.K w.fa H' μ' ρ' π' σ' ∧ PoS w W E H' μ' (whL tc sb m ρ' π'), fun σ' H' ⟨ρ', π', μ', s', p'⟩ => ⟨m, Nat.lt_succ_self m, ρ', π', μ', s', p'⟩, ρ2, π3, μ3, sr3, ?_⟩
      simp only at q3
      cases eb : sb ρ2 π3 with
      | nx ρ5 π5 =>
        rw [eb] at q3
        exact fun σ' H' μ' g' s' => ⟨ρ5, π5, μ', s', PoS.grow g' q3⟩
      | ct ρ5 π5 =>
        rw [eb] at q3
        exact fun σ' H' μ' g' s' => ⟨ρ5, π5, μ', s', PoS.grow g' q3⟩
      | bk ρ5 π5 => rw [eb] at q3; exact q3
      | rt d5 π5 => rw [eb] at q3; exact q3
      | exc x5 ρ5 π5 => rw [eb] at q3; exact q3
      | bad => rw [eb] at q3; exact q3
end

/-! ### list comprehensions -/
def wipeD (ρ : RO) : List Nat → RO
  | [] => ρ
  | v :: vs => (wipeD ρ vs).set v none
theorem wipeD_length (ρ : RO) : ∀ vs : List Nat, (wipeD ρ vs).length = ρ.length
  | [] => rfl
  | v :: vs => by unfold wipeD; rw [List.length_set, wipeD_length ρ vs]
theorem wipe_at {σ : L2.St} {j : Nat} : ∀ {vs : List Nat}, j ∈ vs → j < σ.length → (wipe σ vs)[j]? = some none
  | v :: vs, h, hl => by
    unfold wipe
    by_cases hv : v = j
    · subst hv
      exact List.getElem?_set_self (by rw [wipe_length]; exact hl)
    · rw [List.getElem?_set_ne hv]
      exact wipe_at ((List.mem_cons.mp h).resolve_left (Ne.symm hv)) hl
theorem wipe_but {σ σ2 : L2.St} {us vs : List Nat} (h : But us (wipe σ vs) σ2) (hs : ∀ u ∈ us, u ∈ vs) : wipe σ2 vs = wipe σ vs := by
  have hl : σ2.length = σ.length := by rw [h.1, wipe_length]
  refine List.ext_getElem? fun j => ?_
  by_cases hj : j ∈ vs
  · by_cases hlt : j < σ.length
    · rw [wipe_at hj (by rw [hl]; exact hlt), wipe_at hj hlt]
    · rw [List.getElem?_eq_none (by rw [wipe_length, hl]; omega), List.getElem?_eq_none (by rw [wipe_length]; omega)]
  · rw [wipe_out hj, h.2 j fun z => hj (hs j z)]
theorem SR.wipe {K : PySem.W.Frag} {fa : FA} {H : Hp} {μ : List Addr} {ρ : RO} {π : PH} {σ : L2.St} (s : SR K fa H μ ρ π σ) : ∀ vs : List Nat, SR K fa H μ (wipeD ρ vs) π (L2.wipe σ vs)
  | [] => s
  | v :: vs => by
    have s' := SR.wipe s vs
    refine ⟨s'.hr, fun i d e => ?_, by unfold wipeD L2.wipe; simp [s'.ln]⟩
    unfold wipeD at e
    unfold L2.wipe
    by_cases hv : v = i
    · subst hv
      by_cases hl : v < (wipeD ρ vs).length
      · rw [List.getElem?_set_self hl] at e; cases e
      · rw [List.getElem?_eq_none (by simpa using hl)] at e; cases e
    · rw [List.getElem?_set_ne hv] at e ⊢
      exact s'.lc i d e
def noTest : RO → PH → R Bool := fun _ π => .ok true π
def lcL (src : Src) (tv : Tv) (tc : RO → PH → R Bool) (te : Ev) (ρ : RO) (n : Nat) : Nat → Nat → PH → R D
  | 0, _, _ => .bad
  | f + 1, i, π => match src i π with
    | .stop => .ok (.ref n) π
    | .bad => .bad
    | .item d => match tv d ρ with
      | none => .bad
      | some ρ1 => match tc ρ1 π with
        | .ok false π2 => lcL src tv tc te ρ n f (i + 1) π2
        | .ok true π2 => match te ρ1 π2 with
          | .ok y π3 => match π3[n]? with
            | some (.lst acc) => if acc.length ≤ LEN then lcL src tv tc te ρ n f (i + 1) (π3.set n (.lst (acc ++ [y]))) else .bad
            | _ => .bad
          | _ => .bad
        | _ => .bad
def eLc (vs : List Nat) (iv : Iv) (tv : Tv) (tc : RO → PH → R Bool) (te : Ev) : Ev := fun ρ π => (iv ρ π).bind fun src π1 => lcL src tv tc te (wipeD ρ vs) π1.length FU 0 (π1 ++ [.lst []])
/-- nothing is let out -/
abbrev W0 : WX := fun _ _ _ _ => False
theorem _root_.L2.PTs.imp {X : Cx} {e : List Expr} {t t' : TT} (h : PTs X e t) (k : ∀ σ H Q, t' σ H Q → t σ H Q) : PTs X e t' := ⟨fun pins s σ H Q I q => h.run pins s σ H Q I (k σ H Q q)⟩
section
variable {X : Cx} {w : Wd} {W : WX} {pos : Pos} {tg iter elt c : Expr} {ifs : List Expr} {iv : Iv} {us : List Nat} {tv : Tv} {te : Ev} {tc : RO → PH → R Bool}
theorem dts_nil : PTs X [] (tT w W noTest) := pts_nil.imp fun σ H Q ⟨ρ, π, μ, sr, q⟩ => po_ok q sr.hr rfl
theorem dts_one (h : PT X c (tT w W tc)) : PTs X [c] (tT w W tc) := pts_one h
theorem lc_read {σ : L2.St} {H : Hp} {Q : VK} {vs : List Nat} (hs : ∀ u ∈ us, u ∈ vs) (h : tD w W (eLc vs iv tv tc te) σ H Q) : tLc (tI w W iv) (tG w us tv) (tT w W0 tc) (tD w W0 te) vs σ H Q := by
  obtain ⟨ρ, π, μ, sr, q⟩ := h
  refine ⟨ρ, π, μ, sr, po_bind q fun src π1 J H1 μ1 g hr ok q1 => ?_⟩
  intro D hD
  have srW : ∀ {H' μ' π'}, Grow w.K H1 μ1 H' μ' → HR w.K w.fa H' μ' π' → SR w.K w.fa H' μ' (wipeD ρ vs) π' (L2.wipe σ vs) := fun {H' μ' π'} g' hr' => ((sr.grow (g.trans g') hr').wipe vs)
  have n0 : (μ1 ++ [D])[π1.length]? = some D := by rw [← hr.len]; simp
  have g0 : Grow w.K H1 μ1 (upd H1 D (.lst [])) (μ1 ++ [D]) := (Grow.fresh hD).trans Grow.more
  refine ⟨fun i m H2 => ∃ π2 μ2, Grow w.K H1 μ1 H2 μ2 ∧ HR w.K w.fa H2 μ2 π2 ∧ μ2[π1.length]? = some D ∧ Po w W σ (rD w) H2 μ2 (lcL src tv tc te (wipeD ρ vs) π1.length m i π2) Q, ⟨FU, π1 ++ [.lst []], μ1 ++ [D], g0, hr.push hD .nil, n0, Po.grow g0 q1⟩, ?_⟩
  rintro i m H2 ⟨π2, μ2, g2, hr2, nD, q2⟩
  have okI := ok i H2 μ2 π2 g2 hr2
  cases m with
  | zero => exact q2.elim
  | succ m =>
    simp only [lcL] at q2
    cases e : src i π2 with
    | stop =>
      rw [e] at okI q2
      exact .inl ⟨okI, po_ok q2 hr2 (by unfold rD; unfold RD; exact ⟨D, rfl, nD⟩)⟩
    | bad => rw [e] at q2; exact q2.elim
    | item d =>
      rw [e] at okI q2
      simp only at okI q2
      refine .inr ⟨okI.1, fun H' => ∃ π' μ', Grow w.K H1 μ1 H' μ' ∧ HR w.K w.fa H' μ' π' ∧ μ'[π1.length]? = some D ∧ Po w W σ (rD w) H' μ' (lcL src tv tc te (wipeD ρ vs) π1.length m (i + 1) π') Q, fun H' ⟨π', μ', a1, a2, a3, a4⟩ => ⟨m, Nat.lt_succ_self m, π', μ', a1, a2, a3, a4⟩, fun x H3 hy => ?_⟩
      obtain ⟨g3, hr3, rd3⟩ := okI.2 x H3 hy
      have g23 := g2.trans g3
      refine ⟨d, wipeD ρ vs, π2, μ2, srW g23 hr3, rd3, ?_⟩
      cases et : tv d (wipeD ρ vs) with
      | none => rw [et] at q2; exact q2.elim
      | some ρ3 =>
        rw [et] at q2
        simp only at q2
        refine fun σ4 sr4 bt => ⟨wipe_but bt hs, ρ3, π2, μ2, sr4, ?_⟩
        have q3 := Po.grow g3 q2
        cases ec : tc ρ3 π2 with
        | bad => rw [ec] at q3; exact q3.elim
        | exc x5 π5 => rw [ec] at q3; exact q3.elim
        | ok k π5 =>
          rw [ec] at q3
          intro k' H5 μ5 g5 hr5 ek
          cases ek
          have n5 := g5.pre _ _ nD
          cases k with
          | false =>
            rw [if_neg Bool.false_ne_true]
            exact ⟨π5, μ5, g23.trans g5, hr5, n5, Po.grow g5 q3⟩
          | true =>
            rw [if_pos rfl]
            simp only at q3
            refine ⟨ρ3, π5, μ5, sr4.grow g5 hr5, ?_⟩
            cases ee : te ρ3 π5 with
            | bad => rw [ee] at q3; exact q3.elim
            | exc x6 π6 => rw [ee] at q3; exact q3.elim
            | ok y π6 =>
              rw [ee] at q3
              simp only at q3
              intro v H6 μ6 g6 hr6 rv
              have n6 := g6.pre _ _ n5
              split at q3
              · rename_i acc hacc
                split at q3
                · rename_i hlen
                  obtain ⟨D', e1, av, e2, ra⟩ := hr6.at' _ _ hacc
                  rw [n6] at e1; cases e1
                  refine ⟨av, e2, by rw [ra.length]; exact len_lt hlen, ?_⟩
                  have gw : Grow w.K H6 μ6 (upd H6 D (.lst (av ++ [v]))) μ6 := Grow.write e2
                  exact ⟨_, μ6, ((g23.trans g5).trans g6).trans gw, hr6.write hacc n6 (ra.append (.cons rv .nil)), n6, Po.grow ((g5.trans g6).trans gw) q3⟩
                · exact q3.elim
              · exact q3.elim
theorem de_lc {scope : Scope} {own : List (Str × Nat)} (hc : X.calm = true) (hN : X.N.Nodup) (hi : PI X tg iter (tI w W iv)) (ok : BlkOk X.N X.env.scope scope own) (hsub : ∀ u ∈ us, u ∈ own.map (·.2))
    (hg : ∀ (s : Shared) (H : Hp) (C : Addr) (cl : List (Str × Addr)) (fp : List Addr), PG (X.blk s H scope (compEnvC scope cl C X.env) fp) tg (tG w us tv)) (ht : ∀ (s : Shared) (H : Hp) (C : Addr) (cl : List (Str × Addr)) (fp : List Addr), PTs (X.blk s H scope (compEnvC scope cl C X.env) fp) ifs (tT w W0 tc))
    (he : ∀ (s : Shared) (H : Hp) (C : Addr) (cl : List (Str × Addr)) (fp : List Addr), PE (X.blk s H scope (compEnvC scope cl C X.env) fp) elt (tD w W0 te)) (hs : ∀ x, foldedSetIterable iter X.env x = pure x := by intro _; rfl) :
    PE X (.ListComp elt [⟨tg, iter, ifs, 0⟩] scope pos) (tD w W (eLc (own.map (·.2)) iv tv tc te)) :=
  (pe_lc hc hN hi ok hg ht he hs).imp fun σ H Q h => lc_read hsub h
theorem ds_setLc {i : Nat} {y : Str} {py spos : Pos} {scope : Scope} {own : List (Str × Nat)} (hc : X.calm = true) (hN : X.N.Nodup) (hy : X.N[i]? = some y) (hyl : X.env.scope.names.lookup y = some .local)
    (hsw : swapsWith (.ListComp elt [⟨tg, iter, ifs, 0⟩] scope pos) (some (.Name y py)) spos.line X.env = pure true) (hi : PI X tg iter (tI w W iv)) (ok : BlkOk X.N X.env.scope scope own) (hsub : ∀ u ∈ us, u ∈ own.map (·.2))
    (hg : ∀ (s : Shared) (H : Hp) (C : Addr) (cl : List (Str × Addr)) (fp : List Addr), PG (X.blk s H scope (compEnvC scope cl C X.env) fp) tg (tG w us tv)) (ht : ∀ (s : Shared) (H : Hp) (C : Addr) (cl : List (Str × Addr)) (fp : List Addr), PTs (X.blk s H scope (compEnvC scope cl C X.env) fp) ifs (tT w W0 tc))
    (he : ∀ (s : Shared) (H : Hp) (C : Addr) (cl : List (Str × Addr)) (fp : List Addr), PE (X.blk s H scope (compEnvC scope cl C X.env) fp) elt (tD w W0 te)) (hs : ∀ x, foldedSetIterable iter X.env x = pure x := by intro _; rfl) :
    PS X (.Assign [.Name y py] (.ListComp elt [⟨tg, iter, ifs, 0⟩] scope pos) spos) (tS w W (sSet i (eLc (own.map (·.2)) iv tv tc te))) :=
  (ps_setLc hc hN hy hyl hsw hi ok hg ht he hs).imp fun E σ H ⟨ρ, π, μ, sr, q⟩ => lc_read hsub ⟨ρ, π, μ, sr, sr.post q fun d π1 v H1 μ1 g sr1 rd q1 => pos_nx q1 (sr1.set i rd)⟩
end
end Lb
set_option Elab.async false
set_option linter.all false
set_option maxRecDepth 100000
set_option maxHeartbeats 4000000
namespace Lb
open PySem PySem.Spec PyProof.Rows L2

/-! ### calls of the program's own defs -/
/-- what a def promises by data -/
def spD (w : Wd) (g : ON) : Sp := fun vs H Q E => ∃ ds π μ, HR w.K w.fa H μ π ∧ RDs w.K w.fa H μ ds vs ∧ Po w (fun c d _ H => E c d H) [] (rD w) H μ (g ds π) Q
/-- a def's body run on its arguments; n parameters, m slots -/
def runB (n m : Nat) (s : Sv) : ON := fun ds π => if ds.length = n then match s (ds.map some ++ List.replicate (m - n) none) π with
  | .nx _ π1 => .ok .non π1
  | .rt d π1 => .ok d π1
  | .exc e _ π1 => .exc e π1
  | _ => .bad
  else .bad
theorem po_E {w : Wd} {E : XK} {W : WX} {σ σ' : L2.St} {H : Hp} {μ : List Addr} {r : R D} {Q : VK} (h : Po w W σ (rD w) H μ r Q) (k : ∀ c d H, W c d σ H → E c d H) : Po w (fun c d _ H => E c d H) σ' (rD w) H μ r Q := by
  cases r with
  | ok a π => exact h
  | exc e π => exact fun C dx H' μ' hc g hr rx => k _ _ _ (h C dx H' μ' hc g hr rx)
  | bad => exact h
section
variable {P : Program} {wd : World} {w : Wd} {mg : Str → Option Value} {base : Heap}
theorem fn_D {x qual : Str} {st : Stmt} {f : Addr} {fd : FuncData} {N ps : List Str} {k n m : Nat} {body : Sv} (F : Fun w.K x qual st f fd) (S : FnScope N ps (defScope st)) (hn : ps.length = n) (hm : N.length = m)
    (hbody : ∀ (cdv : Value) (A : Around) (outer : List Env) (s : Shared) (H : Hp) (E : XK), Room k (A.deeper (envOfC qual (defScope st) s.heap.objs.size f cdv)) →
      PSs (cxOf (L2.CX P wd) P wd w.K mg base N qual (defScope st) f cdv A outer s H E) (defBody st) (tS w (fun c d _ H => E c d H) body)) :
    FnOk P wd w.K mg base (L2.CX P wd) (k + 1) f fd ps (spD w (runB n m body)) := by
  have hlen : ∀ {ds : List D} {vs : List V} {H : Hp} {μ : List Addr} {π : PH} {Q : VK} {E : XK}, RDs w.K w.fa H μ ds vs → Po w (fun c d _ H => E c d H) [] (rD w) H μ (runB n m body ds π) Q → ds.length = n := by
    intro ds vs H μ π Q E r q
    by_cases h : ds.length = n
    · exact h
    · simp only [runB, if_neg h] at q; exact q.elim
  refine F.okX S (fun vs H Q E ⟨ds, π, μ, hr, r, q⟩ => by rw [r.length, hn]; exact hlen r q) (fun cdv A outer s H vs Q E hr ⟨ds, π, μ, hrr, r, q⟩ => ?_)
  have hl := hlen r q
  refine ⟨_, hbody cdv A outer s H E hr, ds.map some ++ List.replicate (m - n) none, π, μ, ⟨hrr, fun i d e => ?_, ?_⟩, ?_⟩
  · by_cases hi : i < ds.length
    · rw [List.getElem?_append_left (by simpa using hi), List.getElem?_map] at e
      cases e2 : ds[i]? with
      | none => rw [e2] at e; cases e
      | some d' =>
        rw [e2] at e
        cases e
        obtain ⟨v, q1, q2⟩ := r.get e2
        refine ⟨v, ?_, q2⟩
        unfold L2.start
        rw [List.getElem?_append_left (by simp; rw [r.length]; exact hi), List.getElem?_map, q1]
        rfl
    · rw [List.getElem?_append_right (by simpa using hi)] at e
      have := List.getElem?_eq_some_iff.mp e
      obtain ⟨_, h2⟩ := this
      rw [List.getElem_replicate] at h2; cases h2
  · unfold L2.start
    simp [r.length, hl, hm]
  · simp only [runB, if_pos hl] at q
    cases e : body (ds.map some ++ List.replicate (m - n) none) π with
    | nx ρ1 π1 => rw [e] at q; exact fun σ' H' μ' g sr => q .non H' μ' g sr.hr (by unfold rD; unfold RD; rfl)
    | rt d1 π1 => rw [e] at q; exact q
    | exc x1 ρ1 π1 => rw [e] at q; exact fun C dx σ' H' μ' hc g sr rx => q C dx H' μ' hc g sr.hr rx
    | bk ρ1 π1 => rw [e] at q; exact q.elim
    | ct ρ1 π1 => rw [e] at q; exact q.elim
    | bad => rw [e] at q; exact q.elim
end
section
variable {X : Cx} {w : Wd} {W : WX} {k : Nat} {f : Addr} {fd : FuncData} {ps : List Str} {x : Str} {p pos : Pos} {e : Expr} {es : List Expr} {g : ON} {aa ab : Av} {kws : List Keyword} {ks : List Str}
theorem de_call (F : FnOk X.prog X.w X.K X.mg X.base (L2.CX X.prog X.w) k f fd ps (spD w g)) (hr : Room k X.A) (hg : Gl X x) (hm : X.mg x = some (.ref f)) (hk : PySem.W.keepIn X.K (.ref f) = true) (hb : Binds X.K fd ps []) (tk : Takes X W)
    (ha : PA X (e :: es) (tA w W aa)) (hdb : (x == ("__debug__" : Str)) = false := by decide) (he : starEach (e :: es) X.env = (false, eval e X.env) :: starEach es X.env := by rfl) (hpl : (backTo pos (starEach es X.env)).any (·.1) = false := by rfl) :
    PE X (.Call (.Name x p) (e :: es) [] pos) (tD w W (eCall g aa)) := by
  refine (pe_callS F hr hg hm hk hb (passAt tk) ha hdb he hpl).imp fun σ H Q ⟨ρ, π, μ, sr, q⟩ => ⟨ρ, π, μ, sr, po_bind q fun ds π1 vs H1 μ1 g1 hr1 rd q1 => ?_⟩
  exact ⟨ds, π1, μ1, hr1, rd, po_E (E := WE W σ) q1 fun _ _ _ h => h⟩
theorem de_call0 (F : FnOk X.prog X.w X.K X.mg X.base (L2.CX X.prog X.w) k f fd ps (spD w g)) (hr : Room k X.A) (hg : Gl X x) (hm : X.mg x = some (.ref f)) (hk : PySem.W.keepIn X.K (.ref f) = true) (hb : Binds X.K fd ps []) (tk : Takes X W)
    (hdb : (x == ("__debug__" : Str)) = false := by decide) : PE X (.Call (.Name x p) [] [] pos) (tD w W (eCall g aNil)) := by
  refine ⟨fun pins s σ H Q I ⟨ρ, π, μ, sr, q⟩ => ?_⟩
  refine wpAny_Call_Name_kw (ld_glob I hg hm ?_ hdb)
  exact PySem.W.callWith_K0 I.kIn hk (run_fnS (us := []) F hr hb (passAt tk σ) I .nil ⟨[], π, μ, sr.hr, .nil, po_E (E := WE W σ) q fun _ _ _ h => h⟩)
/-! by keywords -/
def eCallK (g : ON) (pm : List D → List D → List D) (aa ab : Av) : Ev := fun ρ π => (aa ρ π).bind fun ds π1 => (ab ρ π1).bind fun zs π2 => g (pm ds zs) π2
theorem _root_.L2.PK.imp {X : Cx} {kws : List Keyword} {t t' : TA} (h : PK X kws t) (k : ∀ σ H Q, t' σ H Q → t σ H Q) : PK X kws t' := ⟨fun a b c d e f i q => h.run a b c d e f i (k _ _ _ q)⟩
theorem dk_nil : PK X [] (tA w W aNil) := pk_nil.imp fun σ H Q ⟨ρ, π, μ, sr, q⟩ => po_ok q sr.hr RDs.nil
theorem dk_cons {nm : Option Str} {kpos : Pos} {ea : Ev} (ha : PE X e (tD w W ea)) (hr : PK X kws (tA w W aa)) : PK X (⟨nm, e, kpos⟩ :: kws) (tA w W (aCons ea aa)) := by
  refine (pk_cons ha hr).imp fun σ H Q ⟨ρ, π, μ, sr, q⟩ => ?_
  refine ⟨ρ, π, μ, sr, po_bind q fun d π1 v H1 μ1 g hr rd q1 => ⟨ρ, π1, μ1, sr.grow g hr, po_bind q1 fun ds π2 vs H2 μ2 g2 hr2 rds q2 => ?_⟩⟩
  exact po_ok q2 hr2 (.cons (rd.grow g2) rds)
/-- arguments picked by their places among all that are passed: a positional ones, b by keywords -/
def pick (a b : Nat) (ix : List Nat) {α : Type} (us ws : List α) : List α := if us.length = a ∧ ws.length = b then ix.filterMap fun i => (us ++ ws)[i]? else []
theorem pick_rel {R : V → Value → Prop} : ∀ {ix : List Nat} {vs : List V} {us : List Value}, Vals vs us → Vals (ix.filterMap fun i => vs[i]?) (ix.filterMap fun i => us[i]?)
  | [], _, _, _ => .nil
  | i :: ix, vs, us, r => by
    simp only [List.filterMap_cons]
    cases e : vs[i]? with
    | none => rw [r.none_of e]; exact pick_rel (R := R) r
    | some v =>
      obtain ⟨u, e2, q⟩ := r.get e
      rw [e2]
      exact .cons q (pick_rel (R := R) r)
theorem pick_vals {a b : Nat} {ix : List Nat} {vs zs : List V} {us ws : List Value} (r : Vals vs us) (q : Vals zs ws) : Vals (pick a b ix vs zs) (pick a b ix us ws) := by
  unfold pick
  rw [r.length, q.length]
  split
  · exact pick_rel (R := RelV) (r.append q)
  · exact .nil
theorem pick_rds {K : PySem.W.Frag} {fa : FA} {H : Hp} {μ : List Addr} {a b : Nat} {ix : List Nat} {ds es : List D} {vs us : List V} (r : RDs K fa H μ ds vs) (q : RDs K fa H μ es us) : RDs K fa H μ (pick a b ix ds es) (pick a b ix vs us) := by
  have gen : ∀ {ix : List Nat} {ds : List D} {vs : List V}, RDs K fa H μ ds vs → RDs K fa H μ (ix.filterMap fun i => ds[i]?) (ix.filterMap fun i => vs[i]?) := by
    intro ix
    induction ix with
    | nil => intro ds vs _; exact .nil
    | cons i ix ih =>
      intro ds vs r
      simp only [List.filterMap_cons]
      cases e : ds[i]? with
      | none =>
        have : vs[i]? = none := by
          have l := r.length
          exact List.getElem?_eq_none_iff.mpr (by have := List.getElem?_eq_none_iff.mp e; omega)
        rw [this]; exact ih r
      | some d =>
        obtain ⟨v, e2, q⟩ := r.get e
        rw [e2]
        exact .cons q (ih r)
  unfold pick
  rw [r.length, q.length]
  split
  · exact gen (r.append q)
  · exact .nil
def PBinds (K : PySem.W.Frag) (fd : FuncData) (ps ks : List Str) (a b : Nat) (ix : List Nat) : Prop :=
  ∀ (s : Shared) (us ws : List Value), K.In s.heap → us.length = a → ws.length = b → BindsTo s fd ⟨us, ks.zip ws⟩ (ps.zip (pick a b ix us ws))
section
variable {a b : Nat} {ix : List Nat}
theorem run_fnP {pins : List (Addr × Obj)} {σ : L2.St} {H : Hp} {s : Shared} {Q : VK} {us ws : List Value} {vs zs : List V} {sp : Sp} {E : L2.St → XK} (hps : ps ≠ []) (F : FnOk X.prog X.w X.K X.mg X.base (L2.CX X.prog X.w) k f fd ps sp) (hr : Room k X.A) (hb : PBinds X.K fd ps ks a b ix) (hx : PassesAt (L2.CX X.prog X.w) X σ (E σ))
    (I : Inv X pins σ H s) (r : Vals vs us) (rz : Vals zs ws) (h : sp (pick a b ix vs zs) H Q (E σ)) : wpAny (model X.prog X.w) X.A (call (.ref f) us (ks.zip ws)) (EP X pins σ Q) X.xe s := by
  have r2 := pick_vals (a := a) (b := b) (ix := ix) r rz
  have hl0 : (pick a b ix vs zs).length = ps.length := F.len _ _ _ _ h
  have hc : vs.length = a ∧ zs.length = b := by
    by_cases hc : vs.length = a ∧ zs.length = b
    · exact hc
    · unfold pick at hl0
      rw [if_neg hc] at hl0
      cases ps with
      | nil => exact absurd rfl hps
      | cons _ _ => simp at hl0
  refine wpAny_call (codeAny_mono (F.run X.A X.stack s H ⟨us, ks.zip ws⟩ (pick a b ix us ws) (pick a b ix vs zs) Q (E σ) hr I.env0 (hb s us ws I.kIn (by rw [← r.length]; exact hc.1) (by rw [← rz.length]; exact hc.2)) r2 h) fun r s' hq => ?_)
  cases r with
  | error e => exact hx pins H s e s' I hq
  | ok fl =>
    cases fl with
    | ret u => exact I.after hq
    | next => exact False.elim hq
    | brk => exact False.elim hq
    | cont => exact False.elim hq
theorem de_callK (hps : ps ≠ []) (F : FnOk X.prog X.w X.K X.mg X.base (L2.CX X.prog X.w) k f fd ps (spD w g)) (hr : Room k X.A) (hg : Gl X x) (hm : X.mg x = some (.ref f)) (hk : PySem.W.keepIn X.K (.ref f) = true) (hb : PBinds X.K fd ps ks a b ix) (tk : Takes X W)
    (ha : PA X (e :: es) (tA w W aa)) (hkw : PK X kws (tA w W ab)) (hall : (backToKw pos (keywordEach kws X.env)).all (·.1.isSome) = true := by rfl) (hks : (backToKw pos (keywordEach kws X.env)).filterMap (·.1) = ks := by rfl)
    (hdb : (x == ("__debug__" : Str)) = false := by decide) (he : starEach (e :: es) X.env = (false, eval e X.env) :: starEach es X.env := by rfl)
    (hpl : ((backTo pos (starEach (e :: es) X.env)).any (·.1) || (backToKw pos (keywordEach kws X.env)).any (·.1.isNone)) = false := by rfl) :
    PE X (.Call (.Name x p) (e :: es) kws pos) (tD w W (eCallK g (pick a b ix) aa ab)) := by
  refine ⟨fun pins s σ H Q I ⟨ρ, π, μ, sr, q⟩ => ?_⟩
  refine wpAny_Call_Name_kw (ld_glob I hg hm ?_ hdb)
  have h1 : (tA w W aa) σ H (fun vs H1 => (tA w W ab) σ H1 fun zs H2 => spD w g (pick a b ix vs zs) H2 Q (WE W σ)) :=
    ⟨ρ, π, μ, sr, po_bind q fun ds π1 vs H1 μ1 g1 hr1 rd q1 => ⟨ρ, π1, μ1, sr.grow g1 hr1, po_bind q1 fun zs π2 us H2 μ2 g2 hr2 rd2 q2 =>
      ⟨_, π2, μ2, hr2, pick_rds (rd.grow g2) rd2, po_E (E := WE W σ) q2 fun _ _ _ h => h⟩⟩⟩
  refine PySem.W.callWith_KW (h₀ := X.base) I.ok.mod.kin hk hall (thn (ha.run pos pins s σ H _ I h1) fun us s1 ⟨vs, H1, I1, r, q⟩ => ?_) hpl he
  refine thn (hkw.run pos pins s1 σ H1 _ I1 q) fun ws s2 ⟨zs, H2, I2, rz, q2⟩ => ⟨I2.kIn, ?_⟩
  rw [hks]
  exact run_fnP (E := WE W) hps F hr hb (passAt tk σ) I2 r rz q2
theorem de_callK0 (hps : ps ≠ []) (F : FnOk X.prog X.w X.K X.mg X.base (L2.CX X.prog X.w) k f fd ps (spD w g)) (hr : Room k X.A) (hg : Gl X x) (hm : X.mg x = some (.ref f)) (hk : PySem.W.keepIn X.K (.ref f) = true) (hb : PBinds X.K fd ps ks a b ix) (tk : Takes X W)
    (hkw : PK X kws (tA w W ab)) (hall : (backToKw pos (keywordEach kws X.env)).all (·.1.isSome) = true := by rfl) (hks : (backToKw pos (keywordEach kws X.env)).filterMap (·.1) = ks := by rfl)
    (hdb : (x == ("__debug__" : Str)) = false := by decide)
    (hpl : ((backTo pos (starEach [] X.env)).any (·.1) || (backToKw pos (keywordEach kws X.env)).any (·.1.isNone)) = false := by rfl) :
    PE X (.Call (.Name x p) [] kws pos) (tD w W (eCallK g (pick a b ix) aNil ab)) := by
  refine ⟨fun pins s σ H Q I ⟨ρ, π, μ, sr, q⟩ => ?_⟩
  refine wpAny_Call_Name_kw (ld_glob I hg hm ?_ hdb)
  have h1 : (tA w W ab) σ H fun zs H2 => spD w g (pick a b ix [] zs) H2 Q (WE W σ) :=
    ⟨ρ, π, μ, sr, po_bind (r := ab ρ π) q fun zs π2 us H2 μ2 g2 hr2 rd2 q2 =>
      ⟨_, π2, μ2, hr2, pick_rds RDs.nil rd2, po_E (E := WE W σ) q2 fun _ _ _ h => h⟩⟩
  refine PySem.W.callWith_KW0 (h₀ := X.base) I.ok.mod.kin hk hall (thn (hkw.run pos pins s σ H _ I h1) fun ws s2 ⟨zs, H2, I2, rz, q2⟩ => ⟨I2.kIn, ?_⟩) hpl
  rw [hks]
  exact run_fnP (us := []) (vs := []) (E := WE W) hps F hr hb (passAt tk σ) I2 .nil rz q2
end
end
end Lb
set_option Elab.async false
set_option linter.all false
set_option maxRecDepth 100000
set_option maxHeartbeats 4000000
namespace Lb
open PySem PySem.Spec PyProof.Rows L2

section
variable {w : Wd} {W : WX} {σ : L2.St} {H : Hp} {μ : List Addr} {π : PH} {Q : VK}
theorem po_lst {ds : List D} {vs : List V} {p : Addr} (h : Po w W σ (rD w) H μ (.ok (.ref π.length) (π ++ [.lst ds])) Q) (hr : HR w.K w.fa H μ π) (r : RDs w.K w.fa H μ ds vs) (hp : H p = none) : Q (.ref p) (upd H p (.lst vs)) :=
  h _ _ (μ ++ [p]) ((Grow.fresh hp).trans Grow.more) (hr.push hp r) (by unfold rD; unfold RD; exact ⟨p, rfl, by rw [← hr.len]; simp⟩)
theorem po_tup {ds : List D} {vs : List V} {p : Addr} (h : Po w W σ (rD w) H μ (.ok (.tup ds) π) Q) (hr : HR w.K w.fa H μ π) (r : RDs w.K w.fa H μ ds vs) (hp : H p = none) : Q (.ref p) (upd H p (.tup vs)) :=
  h _ _ μ (Grow.fresh hp) (hr.fresh hp) (rd_tup_fresh hp r)
theorem po_int {i : Int} (h : Po w W σ (rD w) H μ (.ok (.int i) π) Q) (hr : HR w.K w.fa H μ π) : Q (.int i) H := po_ok h hr (by unfold rD; unfold RD; rfl)
theorem po_bl {i : Bool} (h : Po w W σ (rD w) H μ (.ok (.bl i) π) Q) (hr : HR w.K w.fa H μ π) : Q (.bl i) H := po_ok h hr (by unfold rD; unfold RD; rfl)
theorem RD.int_inv {K : PySem.W.Frag} {fa : FA} {i : Int} {v : V} (r : RD K fa H μ (.int i) v) : v = .int i := by unfold RD at r; exact r
theorem RD.bl_inv {K : PySem.W.Frag} {fa : FA} {i : Bool} {v : V} (r : RD K fa H μ (.bl i) v) : v = .bl i := by unfold RD at r; exact r
theorem RD.str_inv {K : PySem.W.Frag} {fa : FA} {i : Str} {v : V} (r : RD K fa H μ (.str i) v) : v = .str i := by unfold RD at r; exact r
theorem RD.tup_inv {K : PySem.W.Frag} {fa : FA} {ds : List D} {v : V} (r : RD K fa H μ (.tup ds) v) : ∃ a vs, v = .ref a ∧ SqT K H a vs ∧ RDs K fa H μ ds vs := by unfold RD at r; exact r
theorem RD.ref_inv {K : PySem.W.Frag} {fa : FA} {n : Nat} {v : V} (r : RD K fa H μ (.ref n) v) : ∃ a, v = .ref a ∧ μ[n]? = some a := by unfold RD at r; exact r
theorem HR.lst {n : Nat} {a : Addr} {xs : List D} (hr : HR w.K w.fa H μ π) (e : π[n]? = some (.lst xs)) (m : μ[n]? = some a) : ∃ vs, H a = some (.lst vs) ∧ RDs w.K w.fa H μ xs vs := by
  obtain ⟨a', e1, vs, e2, r⟩ := hr.at' n _ e
  rw [m] at e1; cases e1
  exact ⟨vs, e2, r⟩
end

/-! ### displays -/
def eTup (aa : Av) : Ev := fun ρ π => (aa ρ π).bind fun ds π1 => if ds.length ≤ LEN then .ok (.tup ds) π1 else .bad
def newL (ds : List D) (π : PH) : R D := .ok (.ref π.length) (π ++ [.lst ds])
def eLst (aa : Av) : Ev := fun ρ π => (aa ρ π).bind fun ds π1 => if ds.length ≤ LEN then newL ds π1 else .bad
section
variable {X : Cx} {w : Wd} {W : WX} {pos p2 : Pos} {a b c : Expr} {es : List Expr} {ea eb ec' : Ev} {aa : Av}
theorem de_tup {x1} (h : PA X es (tA w W aa)) : PE X (.Tuple es x1 pos) (tD w W (eTup aa)) :=
  (pe_tup h).imp fun σ H Q ⟨ρ, π, μ, sr, q⟩ => ⟨ρ, π, μ, sr, po_bind q fun ds π1 vs H1 μ1 g hr rd q1 => by
    split at q1
    · rename_i hl
      exact ⟨by rw [rd.length]; exact len_ok hl, fun p hp => po_tup q1 hr rd hp⟩
    · exact q1.elim⟩
theorem de_lst (h : PA X es (tA w W aa)) : PE X (.List es pos) (tD w W (eLst aa)) :=
  (pe_lst h).imp fun σ H Q ⟨ρ, π, μ, sr, q⟩ => ⟨ρ, π, μ, sr, po_bind q fun ds π1 vs H1 μ1 g hr rd q1 => by
    split at q1
    · rename_i hl
      exact ⟨by rw [rd.length]; exact len_ok hl, fun p hp => po_lst q1 hr rd hp⟩
    · exact q1.elim⟩

/-! ### arithmetic -/
def opAdd : O2 := fun x y π => match x, y with
  | .int i, .int j => .ok (.int (i + j)) π
  | .ref n, .ref m => match π[n]?, π[m]? with
    | some (.lst xs), some (.lst ys) => if xs.length + ys.length ≤ LEN then newL (xs ++ ys) π else .bad
    | _, _ => .bad
  | .tup (x :: xs), .tup ys => if (x :: xs).length + ys.length ≤ LEN then .ok (.tup (x :: xs ++ ys)) π else .bad
  | .str s, .str t => if s.length + t.length ≤ LEN then .ok (.str (s ++ t)) π else .bad
  | _, _ => .bad
def rAddA (K : PySem.W.Frag) : R2 := fun x y H Q => (rI0 (fun i j => .int (i + j)) x y H Q ∨ rCat x y H Q) ∨ (rCatT K x y H Q ∨ (∃ i j, x = .str i ∧ y = .str j ∧ i.length + j.length ≤ sizeLine ∧ Q (.str (i ++ j)) H))
theorem opr_add : OpR X (binaryOp .Add) (rAddA X.K) := (op_add.or op_cat).or (op_catT.or op_add_str)
theorem cov_add : Cov2 w opAdd (rAddA w.K) := by
  intro W σ H μ π x y u v Q hr rx ry h
  unfold opAdd at h
  split at h
  · rename_i i j
    exact .inl (.inl ⟨i, j, rx.int_inv, ry.int_inv, po_int h hr⟩)
  · rename_i n m
    obtain ⟨a1, rfl, m1⟩ := rx.ref_inv
    obtain ⟨a2, rfl, m2⟩ := ry.ref_inv
    split at h
    · rename_i xs ys e1 e2
      obtain ⟨vs, h1, r1⟩ := hr.lst e1 m1
      obtain ⟨us, h2, r2⟩ := hr.lst e2 m2
      split at h
      · rename_i hl
        exact .inl (.inr ⟨a1, a2, vs, us, rfl, rfl, h1, h2, by rw [r1.length, r2.length]; exact len_ok hl, fun p hp => po_lst h hr (r1.append r2) hp⟩)
      · exact h.elim
    · exact h.elim
  · rename_i x xs ys
    obtain ⟨a1, vs, rfl, t1, r1⟩ := rx.tup_inv
    obtain ⟨a2, us, rfl, t2, r2⟩ := ry.tup_inv
    split at h
    · rename_i hl
      refine .inr (.inl ⟨a1, a2, vs, us, rfl, rfl, t1, t2, ?_, by rw [r1.length, r2.length]; exact len_ok hl, fun e => ?_, fun e p hp => po_tup h hr (r1.append r2) hp⟩)
      · intro z; subst z
        have := r1.length
        simp at this
      · subst e
        have : ys = [] := by
          have := r2.length
          simp at this
          exact List.eq_nil_of_length_eq_zero (by omega)
        subst this
        rw [List.append_nil] at h
        exact po_ok h hr rx
    · exact h.elim
  · rename_i s t
    split at h
    · rename_i hl
      refine .inr (.inr ⟨s, t, rx.str_inv, ry.str_inv, len_ok hl, po_ok h hr (by unfold rD; unfold RD; rfl)⟩)
    · exact h.elim
  · exact h.elim
def opSub : O2 := fun x y π => match x, y with
  | .int i, .int j => .ok (.int (i - j)) π
  | _, _ => .bad
theorem cov_sub : Cov2 w opSub (rI0 fun i j => .int (i - j)) := by
  intro W σ H μ π x y u v Q hr rx ry h
  unfold opSub at h
  split at h
  · exact ⟨_, _, rx.int_inv, ry.int_inv, po_int h hr⟩
  · exact h.elim
def smallM (i : Int) : Bool := decide (-(2 ^ 64) < i) && decide (i < 2 ^ 64)
/-- fewer than k bits -/
def bitsLt (n k : Nat) : Bool := n >>> k == 0
theorem bitsLt_of {n k : Nat} (h : n < 2 ^ k) : bitsLt n k = true := by
  unfold bitsLt
  rw [Nat.shiftRight_eq_div_pow, Nat.div_eq_of_lt h]; rfl
theorem bitsLt_log2 {n k : Nat} (h : bitsLt n k = true) (hk : 0 < k) : n.log2 < k := by
  unfold bitsLt at h
  have h := eq_of_beq h
  rw [Nat.shiftRight_eq_div_pow] at h
  have hp : 0 < 2 ^ k := Nat.two_pow_pos k
  have h2 : n < 2 ^ k := by
    rcases Nat.lt_or_ge n (2 ^ k) with q | q
    · exact q
    · have := Nat.div_pos q hp; omega
  by_cases h0 : n = 0
  · subst h0; simpa using hk
  · exact (Nat.log2_lt h0).mpr h2
def mulOk (i j : Int) : Bool := smallM i || (smallM j || (bitsLt i.natAbs 499999 && bitsLt j.natAbs 499999))
def opMul : O2 := fun x y π => match x, y with
  | .int i, .int j => if mulOk i j then .ok (.int (i * j)) π else .bad
  | .ref n, .int k => match π[n]? with
    | some (.lst xs) => if smallI k && decide (xs.length * k.toNat ≤ LEN) then newL (List.replicate k.toNat xs).flatten π else .bad
    | _ => .bad
  | .tup (x :: xs), .int k => if decide (2 ≤ k) && decide (k ≤ 1000) && decide ((x :: xs).length ≤ 1000) then .ok (.tup (List.replicate k.toNat (x :: xs)).flatten) π else .bad
  | _, _ => .bad
def rMulA (K : PySem.W.Frag) : R2 := fun x y H Q => (rI CMul (fun i j => .int (i * j)) x y H Q ∨ rI CMulW (fun i j => .int (i * j)) x y H Q) ∨ (rRep x y H Q ∨ rRepT K x y H Q)
theorem opr_mul : OpR X (binaryOp .Mult) (rMulA X.K) := (op_mul.or op_mulW).or (op_rep.or op_repT)
theorem RDs.rep {K : PySem.W.Frag} {fa : FA} {H : Hp} {μ : List Addr} {ds : List D} {vs : List V} (r : RDs K fa H μ ds vs) : ∀ k : Nat, RDs K fa H μ (List.replicate k ds).flatten (List.replicate k vs).flatten
  | 0 => .nil
  | k + 1 => by rw [List.replicate_succ, List.replicate_succ, List.flatten_cons, List.flatten_cons]; exact r.append (RDs.rep r k)
theorem cov_mul : Cov2 w opMul (rMulA w.K) := by
  intro W σ H μ π x y u v Q hr rx ry h
  unfold opMul at h
  split at h
  · rename_i i j
    split at h
    · rename_i hm
      simp only [mulOk, smallM, Bool.or_eq_true, Bool.and_eq_true, decide_eq_true_eq] at hm
      rcases hm with hm | hm | hm
      · exact .inl (.inl ⟨i, j, rx.int_inv, ry.int_inv, .inl hm, po_int h hr⟩)
      · exact .inl (.inl ⟨i, j, rx.int_inv, ry.int_inv, .inr hm, po_int h hr⟩)
      · have a1 := bitsLt_log2 hm.1 (by decide)
        have a2 := bitsLt_log2 hm.2 (by decide)
        exact .inl (.inr ⟨i, j, rx.int_inv, ry.int_inv, by unfold CMulW; omega, po_int h hr⟩)
    · exact h.elim
  · rename_i n k
    obtain ⟨a1, rfl, m1⟩ := rx.ref_inv
    cases ry.int_inv
    split at h
    · rename_i xs e1
      obtain ⟨vs, h1, r1⟩ := hr.lst e1 m1
      split at h
      · rename_i hc
        rw [Bool.and_eq_true] at hc
        have s := smallI_ok hc.1
        have e63 : (2 : Int) ^ 62 ≤ 2 ^ 63 := by decide
        refine .inr (.inl ⟨a1, k, vs, rfl, rfl, h1, by omega, by omega, by rw [r1.length]; exact len_ok (of_decide_eq_true hc.2), fun p hp => po_lst h hr (r1.rep k.toNat) hp⟩)
      · exact h.elim
    · exact h.elim
  · rename_i x xs k
    obtain ⟨a1, vs, rfl, t1, r1⟩ := rx.tup_inv
    cases ry.int_inv
    split at h
    · rename_i hc
      simp only [Bool.and_eq_true, decide_eq_true_eq] at hc
      refine .inr (.inr ⟨a1, k, vs, rfl, rfl, t1, ?_, hc.1.1, hc.1.2, by rw [r1.length]; exact hc.2, fun p hp => po_tup h hr (r1.rep k.toNat) hp⟩)
      intro z; subst z
      have := r1.length
      simp at this
    · exact h.elim
  · exact h.elim
def opDiv : O2 := fun x y π => match x, y with
  | .int i, .int j => if decide (0 < j) && bitsLt j.natAbs 8999 then .ok (.int (i / j)) π else .bad
  | _, _ => .bad
theorem cov_div : Cov2 w opDiv (rI CDivW fun i j => .int (i / j)) := by
  intro W σ H μ π x y u v Q hr rx ry h
  unfold opDiv at h
  split at h
  · split at h
    · rename_i hc
      simp only [Bool.and_eq_true, decide_eq_true_eq] at hc
      exact ⟨_, _, rx.int_inv, ry.int_inv, ⟨hc.1, Nat.lt_succ_of_lt (bitsLt_log2 hc.2 (by decide))⟩, po_int h hr⟩
    · exact h.elim
  · exact h.elim
def opMod : O2 := fun x y π => match x, y with
  | .int i, .int j => if 0 < j then .ok (.int (i % j)) π else .bad
  | _, _ => .bad
theorem cov_mod : Cov2 w opMod (rI (fun _ j => 0 < j) fun i j => .int (i % j)) := by
  intro W σ H μ π x y u v Q hr rx ry h
  unfold opMod at h
  split at h
  · split at h
    · rename_i hc
      exact ⟨_, _, rx.int_inv, ry.int_inv, hc, po_int h hr⟩
    · exact h.elim
  · exact h.elim
def opPow : O2 := fun x y π => match x, y with
  | .int i, .int j => if decide (0 ≤ j) && decide (j ≤ 1000000) && decide (i.natAbs < 2 ^ 64) then .ok (.int (i ^ j.toNat)) π else .bad
  | _, _ => .bad
theorem cov_pow : Cov2 w opPow (rI CPow fun i j => .int (i ^ j.toNat)) := by
  intro W σ H μ π x y u v Q hr rx ry h
  unfold opPow at h
  split at h
  · split at h
    · rename_i hc
      simp only [Bool.and_eq_true, decide_eq_true_eq] at hc
      exact ⟨_, _, rx.int_inv, ry.int_inv, ⟨hc.1.1, hc.1.2, hc.2⟩, po_int h hr⟩
    · exact h.elim
  · exact h.elim
def opAndB : O2 := fun x y π => match x, y with
  | .int i, .int j => .ok (.int (Builtin.bitAnd i j)) π
  | _, _ => .bad
theorem cov_andB : Cov2 w opAndB (rI0 fun i j => .int (Builtin.bitAnd i j)) := by
  intro W σ H μ π x y u v Q hr rx ry h
  unfold opAndB at h
  split at h
  · exact ⟨_, _, rx.int_inv, ry.int_inv, po_int h hr⟩
  · exact h.elim
def opShr : O2 := fun x y π => match x, y with
  | .int i, .int j => if 0 ≤ j then .ok (.int (i / 2 ^ j.toNat)) π else .bad
  | _, _ => .bad
theorem cov_shr : Cov2 w opShr (rI (fun _ j => 0 ≤ j) fun i j => .int (i / 2 ^ j.toNat)) := by
  intro W σ H μ π x y u v Q hr rx ry h
  unfold opShr at h
  split at h
  · split at h
    · rename_i hc
      exact ⟨_, _, rx.int_inv, ry.int_inv, hc, po_int h hr⟩
    · exact h.elim
  · exact h.elim
def opNeg : O1 := fun x π => match x with
  | .int i => .ok (.int (-i)) π
  | _ => .bad
theorem cov_neg : Cov1 w opNeg (rU fun i => .int (-i)) := by
  intro W σ H μ π x u Q hr rx h
  unfold opNeg at h
  split at h
  · exact ⟨_, rx.int_inv, po_int h hr⟩
  · exact h.elim

/-! ### comparisons -/
def cmpI (f : Int → Int → Bool) : O2 := fun x y π => match x, y with
  | .int i, .int j => .ok (.bl (f i j)) π
  | _, _ => .bad
theorem cov_cmpI (f : Int → Int → Bool) : Cov2 w (cmpI f) (rI0 fun i j => .bl (f i j)) := by
  intro W σ H μ π x y u v Q hr rx ry h
  unfold cmpI at h
  split at h
  · exact ⟨_, _, rx.int_inv, ry.int_inv, po_bl h hr⟩
  · exact h.elim
abbrev opLt : O2 := cmpI fun i j => decide (i < j)
abbrev opLe : O2 := cmpI fun i j => decide (i ≤ j)
abbrev opGt : O2 := cmpI fun i j => decide (j < i)
abbrev opGe : O2 := cmpI fun i j => decide (j ≤ i)
def isNon (d : D) : Bool := match d with | .non => true | _ => false
def opIsN : O2 := fun x y π => match y with
  | .non => .ok (.bl (isNon x)) π
  | _ => .bad
def opNotN : O2 := fun x y π => match y with
  | .non => .ok (.bl (!isNon x)) π
  | _ => .bad
theorem isNon_ok {K : PySem.W.Frag} {fa : FA} {H : Hp} {μ : List Addr} {d : D} {v : V} (r : RD K fa H μ d v) : decide (v = .non) = isNon d := by
  cases d with
  | non => unfold RD at r; subst r; rfl
  | bl _ => cases r.bl_inv; rfl
  | int _ => cases r.int_inv; rfl
  | str _ => cases r.str_inv; rfl
  | tup _ => obtain ⟨a, vs, rfl, _⟩ := r.tup_inv; rfl
  | ref _ => obtain ⟨a, rfl, _⟩ := r.ref_inv; rfl
  | fn _ => unfold RD at r; obtain ⟨a, rfl, _⟩ := r; rfl
  | err a => unfold RD at r; subst r; rfl
  | exf a n dd => unfold RD at r; obtain ⟨rfl, _⟩ := r; rfl
theorem cov_isN : Cov2 w opIsN (fun x y H Q => y = .non ∧ Q (.bl (decide (x = .non))) H) := by
  intro W σ H μ π x y u v Q hr rx ry h
  unfold opIsN at h
  split at h
  · unfold RD at ry
    refine ⟨ry, ?_⟩
    rw [isNon_ok rx]
    exact po_bl h hr
  · exact h.elim
theorem cov_notN : Cov2 w opNotN (fun x y H Q => y = .non ∧ Q (.bl (!decide (x = .non))) H) := by
  intro W σ H μ π x y u v Q hr rx ry h
  unfold opNotN at h
  split at h
  · unfold RD at ry
    refine ⟨ry, ?_⟩
    rw [isNon_ok rx]
    exact po_bl h hr
  · exact h.elim
end
/-! ### == at any depth -/
def toPyL (g : D → Option PyData) : List D → Option (List PyData)
  | [] => some []
  | d :: ds => match g d with
    | some x => match toPyL g ds with
      | some xs => some (x :: xs)
      | none => none
    | none => none
def toPy (π : PH) : Nat → D → Option PyData
  | 0, _ => none
  | f + 1, d => match d with
    | .non => some .none
    | .bl b => some (.bool b)
    | .int i => some (.int i)
    | .str x => some (.str x)
    | .tup xs => match toPyL (toPy π f) xs with
      | some ys => some (.tuple ys)
      | none => none
    | .ref n => match π[n]? with
      | some (.lst xs) => match toPyL (toPy π f) xs with
        | some ys => some (.list ys)
        | none => none
      | some (.scr xs) => match toPyL (toPy π f) xs with
        | some ys => some (.list ys)
        | none => none
      | _ => none
    | .fn _ => none
    | .err _ => none
    | .exf _ _ _ => none
section
variable {X : Cx} {w : Wd} {H : Hp} {μ : List Addr} {π : PH}
theorem toPyL_ok {g : D → Option PyData} (hg : ∀ d v x, RD w.K w.fa H μ d v → g d = some x → Dp w.K H v x) : ∀ {ds : List D} {vs : List V} {xs : List PyData}, RDs w.K w.fa H μ ds vs → toPyL g ds = some xs → DpAll w.K H vs xs
  | [], _, _, r, e => by
    cases r.nil_inv
    simp only [toPyL, Option.some.injEq] at e
    subst e
    exact .nil
  | d :: ds, _, _, r, e => by
    obtain ⟨v, vr, rfl, r1, r2⟩ := r.cons_inv
    simp only [toPyL] at e
    cases e1 : g d with
    | none => rw [e1] at e; cases e
    | some x =>
      rw [e1] at e
      simp only at e
      cases e2 : toPyL g ds with
      | none => rw [e2] at e; cases e
      | some xs =>
        rw [e2] at e
        cases e
        exact .cons (hg d v x r1 e1) (toPyL_ok hg r2 e2)
theorem toPy_ok (hr : HR w.K w.fa H μ π) : ∀ (f : Nat) (d : D) (v : V) (x : PyData), RD w.K w.fa H μ d v → toPy π f d = some x → Dp w.K H v x
  | 0, _, _, _, _, e => by cases e
  | f + 1, d, v, x, r, e => by
    cases d with
    | non => unfold RD at r; subst r; simp only [toPy, Option.some.injEq] at e; subst e; exact .non
    | bl b => cases r.bl_inv; simp only [toPy, Option.some.injEq] at e; subst e; exact .bl b
    | int i => cases r.int_inv; simp only [toPy, Option.some.injEq] at e; subst e; exact .int i
    | str i => cases r.str_inv; simp only [toPy, Option.some.injEq] at e; subst e; exact .str i
    | tup ds =>
      obtain ⟨a, vs, rfl, t, q⟩ := r.tup_inv
      simp only [toPy] at e
      split at e
      · rename_i ys e1
        cases e
        exact .tup t (toPyL_ok (toPy_ok hr f) q e1)
      · cases e
    | ref n =>
      obtain ⟨a, rfl, m⟩ := r.ref_inv
      simp only [toPy] at e
      split at e
      · rename_i xs hn
        obtain ⟨vs, h1, q⟩ := hr.lst hn m
        split at e
        · rename_i ys e1
          cases e
          exact .lst (SqL.of h1) (toPyL_ok (toPy_ok hr f) q e1)
        · cases e
      · rename_i xs hn
        obtain ⟨a', e1, vs, e2, q⟩ := hr.at' n _ hn
        rw [m] at e1; cases e1
        split at e
        · rename_i ys e1
          cases e
          exact .lst e2.sq (toPyL_ok (toPy_ok hr f) q e1)
        · cases e
      · cases e
    | fn k => simp [toPy] at e
    | err a => simp [toPy] at e
    | exf a n dd => simp [toPy] at e
end
def eqv (π : PH) (x y : D) : Option Bool := match toPy π 50 x, toPy π 50 y with
  | some a, some b => if SeqAt.shaped a && SeqAt.shaped b then some (PyData.eqv a b) else none
  | _, _ => none
def opEq : O2 := fun x y π => match eqv π x y with
  | some b => .ok (.bl b) π
  | none => .bad
def opNe : O2 := fun x y π => match eqv π x y with
  | some b => .ok (.bl (!b)) π
  | none => .bad
section
variable {X : Cx} {w : Wd}
theorem eqv_ok {H : Hp} {μ : List Addr} {π : PH} {x y : D} {u v : V} {b : Bool} (hr : HR w.K w.fa H μ π) (rx : RD w.K w.fa H μ x u) (ry : RD w.K w.fa H μ y v) (e : eqv π x y = some b) :
    ∃ d e, Dp w.K H u d ∧ Dp w.K H v e ∧ SeqAt.shaped d = true ∧ SeqAt.shaped e = true ∧ PyData.eqv d e = b := by
  unfold eqv at e
  split at e
  · rename_i a c e1 e2
    split at e
    · rename_i hs
      rw [Bool.and_eq_true] at hs
      cases e
      exact ⟨a, c, toPy_ok hr _ _ _ _ rx e1, toPy_ok hr _ _ _ _ ry e2, hs.1, hs.2, rfl⟩
    · cases e
  · cases e
theorem cov_eq : Cov2 w opEq (rEqD w.K) := by
  intro W σ H μ π x y u v Q hr rx ry h
  unfold opEq at h
  split at h
  · rename_i b e
    obtain ⟨d, d2, a1, a2, a3, a4, rfl⟩ := eqv_ok hr rx ry e
    exact ⟨d, d2, a1, a2, a3, a4, po_bl h hr⟩
  · exact h.elim
theorem cov_ne : Cov2 w opNe (rNeD w.K) := by
  intro W σ H μ π x y u v Q hr rx ry h
  unfold opNe at h
  split at h
  · rename_i b e
    obtain ⟨d, d2, a1, a2, a3, a4, rfl⟩ := eqv_ok hr rx ry e
    exact ⟨d, d2, a1, a2, a3, a4, po_bl h hr⟩
  · exact h.elim
end
end Lb
set_option Elab.async false
set_option linter.all false
set_option maxRecDepth 100000
set_option maxHeartbeats 4000000
namespace Lb
open PySem PySem.Spec PyProof.Rows L2

/-! ### built-in functions by values -/
section
variable {X : Cx} {w : Wd} {W : WX} {x : Str} {p pos p2 : Pos} {a b c e : Expr} {es : List Expr} {ea eb : Ev} {aa : Av} {op : ON} {r : List V → Hp → VK → Prop}
theorem de_callB {id : String} (hc : CallR X (.builtin id) r) (hv : CovN w op r) (hg : Gl X x) (hm : X.mg x = none) (hb : bootBuiltins x = some (.builtin id)) (ha : PA X (e :: es) (tA w W aa)) (hn : x ≠ "__name__" := by decide) (hdb : (x == ("__debug__" : Str)) = false := by decide)
    (he : starEach (e :: es) X.env = (false, eval e X.env) :: starEach es X.env := by rfl) (hpl : (backTo pos (starEach es X.env)).any (·.1) = false := by rfl) : PE X (.Call (.Name x p) (e :: es) [] pos) (tD w W (eCall op aa)) :=
  (pe_callB hc hg hm hb ha hn hdb he hpl).imp fun _ _ _ h => to_tCB hv h
theorem de_callTy {T : String} (hc : CallR X (.type T) r) (hv : CovN w op r) (hg : Gl X x) (hm : X.mg x = none) (hb : bootBuiltins x = some (.type T)) (ha : PA X (e :: es) (tA w W aa)) (hn : x ≠ "__name__" := by decide) (hdb : (x == ("__debug__" : Str)) = false := by decide)
    (he : starEach (e :: es) X.env = (false, eval e X.env) :: starEach es X.env := by rfl) (hpl : (backTo pos (starEach es X.env)).any (·.1) = false := by rfl) : PE X (.Call (.Name x p) (e :: es) [] pos) (tD w W (eCall op aa)) :=
  (pe_callTy hc hg hm hb ha hn hdb he hpl).imp fun _ _ _ h => to_tCB hv h
theorem de_callBf {id : String} (hc : CallR X (.builtin id) r) (hv : CovN w op r) (hg : Gl X x) (hm : X.mg x = some (.builtin id)) (ha : PA X (e :: es) (tA w W aa)) (hdb : (x == ("__debug__" : Str)) = false := by decide)
    (he : starEach (e :: es) X.env = (false, eval e X.env) :: starEach es X.env := by rfl) (hpl : (backTo pos (starEach es X.env)).any (·.1) = false := by rfl) : PE X (.Call (.Name x p) (e :: es) [] pos) (tD w W (eCall op aa)) :=
  (pe_callBfun hc hg hm ha hdb he hpl).imp fun _ _ _ h => to_tCB hv h
end
/-! len, abs, int, list, tuple, all, any, sum, gcd -/
def bLen : ON := fun ds π => match ds with
  | [.str s] => if s.length ≤ LEN then .ok (.int s.length) π else .bad
  | [d] => match items d π with
    | some xs => .ok (.int xs.length) π
    | none => .bad
  | _ => .bad
def rLenA (K : PySem.W.Frag) : List V → Hp → VK → Prop := fun xs H Q => (∃ p ys, xs = [.ref p] ∧ (SqL K H p ys ∨ SqT K H p ys) ∧ Q (.int ys.length) H) ∨ ∃ z, xs = [.str z] ∧ z.length ≤ sizeLine ∧ Q (.int z.length) H
def bAbs : ON := fun ds π => match ds with
  | [.int i] => .ok (.int (if i < 0 then -i else i)) π
  | _ => .bad
def bInt : ON := fun ds π => match ds with
  | [.int i] => .ok (.int i) π
  | [.bl k] => .ok (.int (if k then 1 else 0)) π
  | _ => .bad
def bList : ON := fun ds π => match ds with
  | [d] => match items d π with
    | some xs => if xs.length ≤ LEN then newL xs π else .bad
    | none => .bad
  | _ => .bad
def bTuple : ON := fun ds π => match ds with
  | [d] => match items d π with
    | some xs => .ok (.tup xs) π
    | none => .bad
  | _ => .bad
def bools : List D → Option (List Bool)
  | [] => some []
  | .bl b :: r => match bools r with
    | some bs => some (b :: bs)
    | none => none
  | _ :: _ => none
def intsD : List D → Option (List Int)
  | [] => some []
  | .int b :: r => match intsD r with
    | some bs => some (b :: bs)
    | none => none
  | _ :: _ => none
def onL {α : Type} (f : List D → Option α) (g : α → D) : ON := fun ds π => match ds with
  | [.ref n] => match items (.ref n) π with
    | some xs => match f xs with
      | some y => .ok (g y) π
      | none => .bad
    | none => .bad
  | _ => .bad
def bAll : ON := onL bools fun bs => .bl (bs.all id)
def bAny : ON := onL bools fun bs => .bl (bs.any id)
def bSum : ON := onL intsD fun ns => .int ns.sum
def bGcd : ON := fun ds π => match ds with
  | [.int i, .int j] => .ok (.int ((Nat.gcd i.natAbs j.natAbs : Nat) : Int)) π
  | _ => .bad
section
variable {X : Cx} {w : Wd} {K : PySem.W.Frag} {fa : FA} {H : Hp} {μ : List Addr}
theorem callr_len : CallR X (.builtin "len") (rLenA X.K) := call_len_seq.or call_len_str
theorem sq_or {k : Bool} {a : Addr} {vs : List V} (h : SqK k K H a vs) : SqL K H a vs ∨ SqT K H a vs := by
  cases k with
  | true => exact .inr h
  | false => exact .inl h
theorem RDs.one {d : D} {us : List V} (r : RDs K fa H μ [d] us) : ∃ v, us = [v] ∧ RD K fa H μ d v := by
  obtain ⟨v, q, rfl, h, h2⟩ := r.cons_inv
  cases h2.nil_inv
  exact ⟨v, rfl, h⟩
theorem RDs.two {d e : D} {us : List V} (r : RDs K fa H μ [d, e] us) : ∃ v u, us = [v, u] ∧ RD K fa H μ d v ∧ RD K fa H μ e u := by
  obtain ⟨v, q, rfl, h, h2⟩ := r.cons_inv
  obtain ⟨u, rfl, h3⟩ := h2.one
  exact ⟨v, u, rfl, h, h3⟩
theorem cov_len : CovN w bLen (rLenA w.K) := by
  intro W σ H μ π xs us Q hr rx h
  unfold bLen at h
  split at h
  · rename_i s
    obtain ⟨v, rfl, r⟩ := rx.one
    split at h
    · rename_i hl
      cases r.str_inv
      exact .inr ⟨s, rfl, len_ok hl, po_int h hr⟩
    · exact h.elim
  · rename_i d _
    obtain ⟨v, rfl, r⟩ := rx.one
    split at h
    · rename_i ds e
      obtain ⟨a, vs, rfl, h1, h2⟩ := items_ok hr r e
      refine .inl ⟨a, vs, rfl, sq_or h1, ?_⟩
      rw [h2.length]
      exact po_int h hr
    · exact h.elim
  · exact h.elim
theorem cov_abs : CovN w bAbs (fun xs H Q => ∃ i, xs = [.int i] ∧ Q (.int (if i < 0 then -i else i)) H) := by
  intro W σ H μ π xs us Q hr rx h
  unfold bAbs at h
  split at h
  · obtain ⟨v, rfl, r⟩ := rx.one
    cases r.int_inv
    exact ⟨_, rfl, po_int h hr⟩
  · exact h.elim
theorem cov_int : CovN w bInt (fun xs H Q => (∃ i, xs = [.int i] ∧ Q (.int i) H) ∨ ∃ k, xs = [.bl k] ∧ Q (.int (if k then 1 else 0)) H) := by
  intro W σ H μ π xs us Q hr rx h
  unfold bInt at h
  split at h
  · obtain ⟨v, rfl, r⟩ := rx.one
    cases r.int_inv
    exact .inl ⟨_, rfl, po_int h hr⟩
  · obtain ⟨v, rfl, r⟩ := rx.one
    cases r.bl_inv
    exact .inr ⟨_, rfl, po_int h hr⟩
  · exact h.elim
theorem cov_list : CovN w bList (fun xs H Q => ∃ p ys, xs = [.ref p] ∧ (SqL w.K H p ys ∨ SqT w.K H p ys) ∧ ∀ l, H l = none → Q (.ref l) (upd H l (.lst ys))) := by
  intro W σ H μ π xs us Q hr rx h
  unfold bList at h
  split at h
  · obtain ⟨v, rfl, r⟩ := rx.one
    split at h
    · rename_i ds e
      obtain ⟨a, vs, rfl, h1, h2⟩ := items_ok hr r e
      split at h
      · exact ⟨a, vs, rfl, sq_or h1, fun l hl => po_lst h hr h2 hl⟩
      · exact h.elim
    · exact h.elim
  · exact h.elim
theorem cov_tuple : CovN w bTuple (fun xs H Q => ∃ p ys, xs = [.ref p] ∧ ((SqL w.K H p ys ∧ ∀ l, H l = none → Q (.ref l) (upd H l (.tup ys))) ∨ (SqT w.K H p ys ∧ Q (.ref p) H))) := by
  intro W σ H μ π xs us Q hr rx h
  unfold bTuple at h
  split at h
  · rename_i d
    obtain ⟨v, rfl, r⟩ := rx.one
    split at h
    · rename_i ds e
      obtain ⟨a, vs, rfl, h1, h2⟩ := items_ok hr r e
      refine ⟨a, vs, rfl, ?_⟩
      cases hk : kindD d with
      | true =>
        rw [hk] at h1
        exact .inr ⟨h1, po_ok h hr (by unfold rD; unfold RD; exact ⟨a, vs, rfl, h1, h2⟩)⟩
      | false =>
        rw [hk] at h1
        exact .inl ⟨h1, fun l hl => po_tup h hr h2 hl⟩
    · exact h.elim
  · exact h.elim
theorem bools_ok : ∀ {ds : List D} {vs : List V} {bs : List Bool}, RDs K fa H μ ds vs → bools ds = some bs → vs = bs.map V.bl
  | [], _, _, r, e => by cases r.nil_inv; simp only [bools, Option.some.injEq] at e; subst e; rfl
  | .bl b :: r', _, _, r, e => by
    obtain ⟨v, q, rfl, h1, h2⟩ := r.cons_inv
    cases h1.bl_inv
    simp only [bools] at e
    split at e
    · rename_i bs e1
      cases e
      rw [bools_ok h2 e1]; rfl
    · cases e
  | .non :: _, _, _, _, e => by simp [bools] at e
  | .int _ :: _, _, _, _, e => by simp [bools] at e
  | .str _ :: _, _, _, _, e => by simp [bools] at e
  | .tup _ :: _, _, _, _, e => by simp [bools] at e
  | .ref _ :: _, _, _, _, e => by simp [bools] at e
  | .fn _ :: _, _, _, _, e => by simp [bools] at e
  | .err _ :: _, _, _, _, e => by simp [bools] at e
  | .exf _ _ _ :: _, _, _, _, e => by simp [bools] at e
theorem ints_ok : ∀ {ds : List D} {vs : List V} {bs : List Int}, RDs K fa H μ ds vs → intsD ds = some bs → vs = bs.map V.int
  | [], _, _, r, e => by cases r.nil_inv; simp only [intsD, Option.some.injEq] at e; subst e; rfl
  | .int b :: r', _, _, r, e => by
    obtain ⟨v, q, rfl, h1, h2⟩ := r.cons_inv
    cases h1.int_inv
    simp only [intsD] at e
    split at e
    · rename_i bs e1
      cases e
      rw [ints_ok h2 e1]; rfl
    · cases e
  | .non :: _, _, _, _, e => by simp [intsD] at e
  | .bl _ :: _, _, _, _, e => by simp [intsD] at e
  | .str _ :: _, _, _, _, e => by simp [intsD] at e
  | .tup _ :: _, _, _, _, e => by simp [intsD] at e
  | .ref _ :: _, _, _, _, e => by simp [intsD] at e
  | .fn _ :: _, _, _, _, e => by simp [intsD] at e
  | .err _ :: _, _, _, _, e => by simp [intsD] at e
  | .exf _ _ _ :: _, _, _, _, e => by simp [intsD] at e
theorem onL_ok {α : Type} {f : List D → Option α} {g : α → D} {W : WX} {σ : L2.St} {π : PH} {xs : List D} {us : List V} {Q : VK} (hr : HR w.K w.fa H μ π) (rx : RDs w.K w.fa H μ xs us) (h : Po w W σ (rD w) H μ (onL f g xs π) Q) :
    ∃ (a : Addr) (ds : List D) (vs : List V) (y : α), us = [V.ref a] ∧ SqL w.K H a vs ∧ RDs w.K w.fa H μ ds vs ∧ f ds = some y ∧ Po w W σ (rD w) H μ (.ok (g y) π) Q := by
  unfold onL at h
  split at h
  · rename_i n
    obtain ⟨v, rfl, r⟩ := rx.one
    split at h
    · rename_i ds e
      obtain ⟨a, vs, rfl, h1, h2⟩ := items_ok hr r e
      split at h
      · rename_i y ey
        exact ⟨a, ds, vs, y, rfl, h1, h2, ey, h⟩
      · exact h.elim
    · exact h.elim
  · exact h.elim
theorem cov_all : CovN w bAll (rAll w.K) := by
  intro W σ H μ π xs us Q hr rx h
  obtain ⟨a, ds, vs, y, rfl, h1, h2, h3, h4⟩ := onL_ok hr rx h
  have e := bools_ok h2 h3
  subst e
  exact ⟨a, y, rfl, h1, po_bl h4 hr⟩
theorem cov_any : CovN w bAny (rAny w.K) := by
  intro W σ H μ π xs us Q hr rx h
  obtain ⟨a, ds, vs, y, rfl, h1, h2, h3, h4⟩ := onL_ok hr rx h
  have e := bools_ok h2 h3
  subst e
  exact ⟨a, y, rfl, h1, po_bl h4 hr⟩
theorem cov_sum : CovN w bSum (rSum w.K) := by
  intro W σ H μ π xs us Q hr rx h
  obtain ⟨a, ds, vs, y, rfl, h1, h2, h3, h4⟩ := onL_ok hr rx h
  have e := ints_ok h2 h3
  subst e
  exact ⟨a, y, rfl, h1, po_int h4 hr⟩
theorem cov_gcd : CovN w bGcd rGcd := by
  intro W σ H μ π xs us Q hr rx h
  unfold bGcd at h
  split at h
  · obtain ⟨v, u, rfl, r1, r2⟩ := rx.two
    cases r1.int_inv
    cases r2.int_inv
    exact ⟨_, _, rfl, po_int h hr⟩
  · exact h.elim
end

/-! ### items, slices -/
def opIx : O2 := fun x y π => match x, y with
  | .str z, .int i => if z.length ≤ LEN then match atI z.cps.toList i with
    | some c => .ok (.str ⟨#[c]⟩) π
    | none => .bad else .bad
  | x, .int i => match items x π with
    | some xs => match atI xs i with
      | some d => .ok d π
      | none => .bad
    | none => .bad
  | _, _ => .bad
def cutD (xs : List D) (lo hi : Option Int) : List D := (xs.drop (HT.sIx xs.length 0 lo)).take (HT.sIx xs.length xs.length hi - HT.sIx xs.length 0 lo)
def opSl (x : D) (lo hi : Option Int) (π : PH) : R D := match x with
  | .tup xs => if HT.sIx xs.length 0 lo = 0 ∧ HT.sIx xs.length xs.length hi = xs.length then .bad else .ok (.tup (cutD xs lo hi)) π
  | x => match items x π with
    | some xs => newL (cutD xs lo hi) π
    | none => .bad
abbrev Pv := RO → PH → R (Option Int)
def pNone : Pv := fun _ π => .ok none π
def pSome (e : Ev) : Pv := fun ρ π => (e ρ π).bind fun d π1 => match d with
  | .int i => .ok (some i) π1
  | _ => .bad
def eSl (e : Ev) (lo hi : Pv) : Ev := fun ρ π => (e ρ π).bind fun x π1 => (lo ρ π1).bind fun l π2 => (hi ρ π2).bind fun h π3 => opSl x l h π3
section
variable {X : Cx} {w : Wd} {W : WX} {pos p2 : Pos} {a b e : Expr} {ea eb : Ev} {lo hi : Option Expr} {pl ph : Pv}
theorem atI_rds {K : PySem.W.Frag} {fa : FA} {H : Hp} {μ : List Addr} {ds : List D} {vs : List V} {i : Int} {d : D} (r : RDs K fa H μ ds vs) (e : atI ds i = some d) : ∃ v, atI vs i = some v ∧ RD K fa H μ d v := by
  unfold atI at e ⊢
  rw [r.length]
  cases q : ixN ds.length i with
  | none => rw [q] at e; cases e
  | some j =>
    rw [q] at e
    exact r.get (show ds[j]? = some d from e)
theorem cov_ix : Cov2 w opIx (rIx w.K) := by
  intro W σ H μ π x y u v Q hr rx ry h
  unfold opIx at h
  split at h
  · rename_i z i
    split at h
    · rename_i hl
      split at h
      · rename_i c hc
        exact .inr (.inr ⟨z, i, c, rx.str_inv, ry.int_inv, len_ok hl, hc, po_ok h hr (by unfold rD; unfold RD; rfl)⟩)
      · exact h.elim
    · exact h.elim
  · rename_i i _
    split at h
    · rename_i xs e
      obtain ⟨a, vs, rfl, h1, h2⟩ := items_ok hr rx e
      split at h
      · rename_i d hd
        obtain ⟨dv, q1, q2⟩ := atI_rds h2 hd
        rcases sq_or h1 with z | z
        · exact .inl ⟨a, vs, i, dv, rfl, ry.int_inv, z, q1, po_ok h hr q2⟩
        · exact .inr (.inl ⟨a, vs, i, dv, rfl, ry.int_inv, z, q1, po_ok h hr q2⟩)
      · exact h.elim
    · exact h.elim
  · exact h.elim
theorem de_ix (hK : X.K = w.K) (ha : PE X a (tD w W ea)) (hb : PE X b (tD w W eb)) (hs : PlainIx b := by intro _ _; rfl) : PE X (.Subscript a b pos) (tD w W (eBin opIx ea eb)) :=
  (pe_ix ix_seq ha hb hs).imp fun _ _ _ h => to_tOp (by rw [hK]; exact cov_ix) h
/-- a part of a slice, by data -/
def tP (w : Wd) (W : WX) (p : Pv) : TO := fun σ H Q => ∃ ρ π μ, SR w.K w.fa H μ ρ π σ ∧ Po w W σ (fun _ _ a b => a = b) H μ (p ρ π) Q
theorem _root_.L2.PO.imp {X : Cx} {e : Option Expr} {t t' : TO} (h : L2.PO X e t) (k : ∀ σ H Q, t' σ H Q → t σ H Q) : L2.PO X e t' := ⟨fun a b c d f i q => h.run a b c d f i (k _ _ _ q)⟩
theorem dp_none : L2.PO X none (tP w W pNone) := po_none.imp fun σ H Q ⟨ρ, π, μ, sr, q⟩ => po_ok q sr.hr rfl
theorem dp_some (ha : PE X a (tD w W ea)) : L2.PO X (some a) (tP w W (pSome ea)) := (po_some ha).imp fun σ H Q ⟨ρ, π, μ, sr, q⟩ => ⟨ρ, π, μ, sr, po_bind q fun d π1 v H1 μ1 g hr rd q1 => by
  split at q1
  · cases rd.int_inv
    exact ⟨_, rfl, po_ok q1 hr rfl⟩
  · exact q1.elim⟩
theorem cut_rds {K : PySem.W.Frag} {fa : FA} {H : Hp} {μ : List Addr} {ds : List D} {vs : List V} (l h : Option Int) (r : RDs K fa H μ ds vs) : RDs K fa H μ (cutD ds l h) (cutV vs l h) := by
  unfold cutD cutV
  rw [r.length]
  exact (r.drop _).take _
theorem de_sl (hK : X.K = w.K) (ha : PE X a (tD w W ea)) (hl : L2.PO X lo (tP w W pl)) (hh : L2.PO X hi (tP w W ph)) : PE X (.Subscript a (.Slice lo hi none p2) pos) (tD w W (eSl ea pl ph)) := by
  refine (pe_slice (sl_list.or sl_tup) ha hl hh).imp fun σ H Q ⟨ρ, π, μ, sr, q⟩ => ?_
  refine ⟨ρ, π, μ, sr, po_bind q fun d π1 v H1 μ1 g1 hr1 rd q1 => ⟨ρ, π1, μ1, sr.grow g1 hr1, po_bind q1 fun l π2 l' H2 μ2 g2 hr2 el q2 => ⟨ρ, π2, μ2, (sr.grow g1 hr1).grow g2 hr2, po_bind q2 fun h π3 h' H3 μ3 g3 hr3 eh q3 => ?_⟩⟩⟩
  cases el
  cases eh
  have rd3 := (rd.grow g2).grow g3
  rw [hK]
  unfold opSl at q3
  split at q3
  · rename_i xs
    obtain ⟨ad, vs, rfl, t, rs⟩ := rd3.tup_inv
    split at q3
    · exact q3.elim
    · rename_i hne
      refine .inr ⟨ad, vs, rfl, t, by rw [rs.length]; exact hne, fun p hp => po_tup q3 hr3 (cut_rds l h rs) hp⟩
  · rename_i hnt
    split at q3
    · rename_i xs e
      obtain ⟨ad, vs, rfl, h1, h2⟩ := items_ok hr3 rd3 e
      have hk : kindD d = false := by
        cases d with
        | tup ys => exact absurd rfl (hnt ys)
        | _ => rfl
      rw [hk] at h1
      exact .inl ⟨ad, vs, rfl, h1, fun p hp => po_lst q3 hr3 (cut_rds l h h2) hp⟩
    · exact q3.elim
end

/-! ### xs[i] = v, xs.append(v) -/
def stIx (o i v : D) (π : PH) : Option PH := match o, i with
  | .ref n, .int k => match π[n]? with
    | some (.lst xs) => match ixN xs.length k with
      | some j => some (π.set n (.lst (xs.set j v)))
      | none => none
    | _ => none
  | _, _ => none
def sStore (eo ei ev : Ev) : Sv := fun ρ π => (ev ρ π).then ρ fun v π1 => (eo ρ π1).then ρ fun o π2 => (ei ρ π2).then ρ fun i π3 => match stIx o i v π3 with
  | some π4 => .nx ρ π4
  | none => .bad
def bAppend : D → ON := fun o ds π => match o, ds with
  | .ref n, [d] => match π[n]? with
    | some (.lst xs) => if xs.length ≤ LEN then .ok .non (π.set n (.lst (xs ++ [d]))) else .bad
    | _ => .bad
  | _, _ => .bad
/-- a method of a list that is written -/
def eMeth (f : D → ON) (eo : Ev) (aa : Av) : Ev := fun ρ π => (eo ρ π).bind fun o π1 => match o with
  | .ref n => match π1[n]? with
    | some (.lst _) => (aa ρ π1).bind fun ds π2 => f o ds π2
    | _ => .bad
  | _ => .bad
section
variable {X : Cx} {w : Wd} {W : WX} {pos p2 p3 : Pos} {o i e : Expr} {es : List Expr} {eo ei ev : Ev} {aa : Av}
theorem po_write {σ : L2.St} {H : Hp} {μ : List Addr} {π : PH} {n : Nat} {a : Addr} {xs ds : List D} {vs : List V} {d : D} {v : V} {Q : VK} (h : Po w W σ (rD w) H μ (.ok d (π.set n (.lst ds))) Q) (hr : HR w.K w.fa H μ π) (hn : π[n]? = some (.lst xs)) (hm : μ[n]? = some a)
    (r : RDs w.K w.fa H μ ds vs) (rd : RD w.K w.fa H μ d v) : Q v (upd H a (.lst vs)) := by
  obtain ⟨us, e, _⟩ := hr.lst hn hm
  have g : Grow w.K H μ (upd H a (.lst vs)) μ := Grow.write e
  exact h v _ μ g (hr.write hn hm r) (rd.grow g)
theorem ds_store (hK : X.K = w.K) (hv : PE X e (tD w W ev)) (ho : PE X o (tD w W eo)) (hi : PE X i (tD w W ei))
    (ha : ∀ v, assign (.Subscript o i p2) X.env v = (do
      let ov ← holding [v] (eval o X.env)
      let iv ← holding [v, ov] (eval i X.env)
      standAt p2
      holding [v, ov, iv] (setItem ov iv v)
      release [v, ov, iv] []) := by intro _; rfl) (hs : swapsWithSole [.Subscript o i p2] e pos.line X.env = pure false := by rfl) (hw : swappedStores [.Subscript o i p2] e X.env = pure none := by rfl)
    (h1 : (assignEach [.Subscript o i p2] X.env).map (·.2) = [assign (.Subscript o i p2) X.env] := by rfl) : PS X (.Assign [.Subscript o i p2] e pos) (tS w W (sStore eo ei ev)) := by
  refine (ps_asg hv (pg_sub ho hi set_list ha) hs hw h1).imp fun E σ H ⟨ρ, π, μ, sr, q⟩ => ⟨ρ, π, μ, sr, sr.post q fun dv π1 v H1 μ1 g1 sr1 rd q1 => ?_⟩
  refine ⟨ρ, π1, μ1, sr1, sr1.post q1 fun dob π2 ov H2 μ2 g2 sr2 rdo q2 => ⟨ρ, π2, μ2, sr2, sr2.post q2 fun di π3 iv H3 μ3 g3 sr3 rdi q3 => ?_⟩⟩
  have rdv := (rd.grow g2).grow g3
  have rdo3 := rdo.grow g3
  cases e4 : stIx dob di dv π3 with
  | none => rw [e4] at q3; exact q3.elim
  | some π4 =>
    rw [e4] at q3
    unfold stIx at e4
    split at e4
    · rename_i n k
      obtain ⟨a, rfl, m⟩ := rdo3.ref_inv
      cases rdi.int_inv
      split at e4
      · rename_i xs hn
        obtain ⟨vs, h2, rs⟩ := sr3.hr.lst hn m
        split at e4
        · rename_i j hj
          cases e4
          refine ⟨a, vs, k, j, rfl, rfl, h2, by rw [rs.length]; exact hj, ?_⟩
          have g : Grow w.K H3 μ3 (upd H3 a (.lst (vs.set j v))) μ3 := Grow.write h2
          exact q3 σ _ μ3 g (sr3.grow g (sr3.hr.write hn m (rs.set j rdv)))
        · cases e4
      · cases e4
    · cases e4
theorem de_append (hK : X.K = w.K) (ho : PE X o (tD w W eo)) (ha : PA X (e :: es) (tA w W aa))
    (hbase : attributeBase o "append" X.env (eval o X.env) = eval o X.env := by rfl)
    (hfew : ((backTo pos (starEach (e :: es) X.env)).all (fun x => !x.1) && (backToKw pos (keywordEach [] X.env)).all (fun x => x.1.isSome)
      && decide ((e :: es).length + ([] : List Keyword).length + (if ([] : List Keyword).isEmpty then 0 else 1) < 30)) = true := by rfl)
    (hline : (p2.endLine == pos.line) = true := by rfl) (hs : starEach (e :: es) X.env = (false, eval e X.env) :: starEach es X.env := by rfl) (hplain : (backTo pos (starEach es X.env)).any (·.1) = false := by rfl) :
    PE X (.Call (.Attribute o "append" p2) (e :: es) [] pos) (tD w W (eMeth bAppend eo aa)) := by
  refine (pe_bm PySem.F.plainAttrs_list PySem.F.slot_list_append PySem.F.type_list_append mt_append ho ha hbase hfew hline hs hplain).imp fun σ H Q ⟨ρ, π, μ, sr, q⟩ => ?_
  refine ⟨ρ, π, μ, sr, po_bind q fun d π1 v H1 μ1 g1 hr1 rd q1 => ?_⟩
  split at q1
  · rename_i n
    obtain ⟨a, rfl, m⟩ := rd.ref_inv
    split at q1
    · rename_i ys hn
      obtain ⟨vs, h1, rs⟩ := hr1.lst hn m
      refine ⟨.inl ⟨rfl, vs, by rw [hK]; exact SqL.of h1⟩, ρ, π1, μ1, sr.grow g1 hr1, po_bind q1 fun ds π2 us H2 μ2 g2 hr2 rds q2 => ?_⟩
      have m2 := g2.pre _ _ m
      unfold bAppend at q2
      split at q2
      · rename_i n' d' e1
        cases e1
        obtain ⟨u, rfl, rd'⟩ := rds.one
        split at q2
        · rename_i xs hn2
          obtain ⟨ws, h3, r3⟩ := hr2.lst hn2 m2
          split at q2
          · rename_i hl
            exact ⟨a, ws, u, rfl, rfl, h3, by rw [r3.length]; exact len_lt hl, po_write q2 hr2 hn2 m2 (r3.append (.cons rd' .nil)) (by unfold RD; rfl)⟩
          · exact q2.elim
        · exact q2.elim
      · exact q2.elim
    · exact q1.elim
  · exact q1.elim
end
end Lb
set_option Elab.async false
set_option linter.all false
set_option maxRecDepth 100000
set_option maxHeartbeats 4000000
namespace Lb
open PySem PySem.Spec PyProof.Rows L2

/-! ### isinstance -/
inductive Ty where
  | int | bool | str | tuple | list
  deriving DecidableEq
def Ty.name : Ty → String
  | .int => "int" | .bool => "bool" | .str => "str" | .tuple => "tuple" | .list => "list"
/-- a value's type's name -/
def tyD (d : D) (π : PH) : Option String := match d with
  | .non => some "NoneType"
  | .bl _ => some "bool"
  | .int _ => some "int"
  | .str _ => some "str"
  | .tup _ => some "tuple"
  | .ref n => match π[n]? with
    | some (.lst _) => some "list"
    | some (.scr _) => some "list"
    | _ => none
  | .fn _ => none
  | .err _ => none
  | .exf _ _ _ => none
def isTy (d : D) (π : PH) (T : Ty) : Option Bool := match d with
  | .non => some false
  | .bl _ => some (decide (T = .bool) || decide (T = .int))
  | .int _ => some (decide (T = .int))
  | .str _ => some (decide (T = .str))
  | .tup _ => some (decide (T = .tuple))
  | .ref n => match π[n]? with
    | some (.lst _) => some (decide (T = .list))
    | some (.scr _) => some (decide (T = .list))
    | _ => none
  | .fn _ => none
  | .err _ => none
  | .exf _ _ _ => none
def isAny (d : D) (π : PH) : List Ty → Option Bool
  | [] => some false
  | T :: Ts => match isTy d π T with
    | some true => some true
    | some false => isAny d π Ts
    | none => none
def eIsi (Ts : List Ty) (e : Ev) : Ev := fun ρ π => (e ρ π).bind fun d π1 => match tyD d π1, isAny d π1 Ts with
  | some _, some b => .ok (.bl b) π1
  | _, _ => .bad
section
variable {w : Wd} {H : Hp} {μ : List Addr} {π : PH}
theorem kit_tab : ∀ (T : Ty), kitB "NoneType" T.name = some false ∧ kitB "bool" T.name = some (decide (T = .bool) || decide (T = .int)) ∧ kitB "int" T.name = some (decide (T = .int)) ∧ kitB "str" T.name = some (decide (T = .str)) ∧
    kitB "tuple" T.name = some (decide (T = .tuple)) ∧ kitB "list" T.name = some (decide (T = .list)) := by
  intro T
  cases T <;> decide +kernel
theorem tyx_list {a : Addr} {vs : List V} (h : SqL w.K H a vs) : TyX w.K H (.ref a) (.type "list") := by
  rcases h with (h | ⟨o, h⟩) | ⟨o, its, n, e, c, _⟩
  · exact .base (.lst h)
  · exact .base (.frz h)
  · exact .kList e c
theorem tyx_tup {a : Addr} {vs : List V} (h : SqT w.K H a vs) : TyX w.K H (.ref a) (.type "tuple") := by
  rcases h with (h | ⟨o, h⟩) | ⟨o, its, n, e, c, _⟩
  · exact .base (.tup h)
  · exact .fTuple h
  · exact .kTuple e c
theorem tyD_ok (hr : HR w.K w.fa H μ π) {d : D} {v : V} {t : String} (r : RD w.K w.fa H μ d v) (e : tyD d π = some t) : TyX w.K H v (.type t) := by
  cases d with
  | non => unfold RD at r; subst r; simp only [tyD, Option.some.injEq] at e; subst e; exact .base .non
  | bl b => cases r.bl_inv; simp only [tyD, Option.some.injEq] at e; subst e; exact .base (.bl b)
  | int b => cases r.int_inv; simp only [tyD, Option.some.injEq] at e; subst e; exact .base (.int b)
  | str b => cases r.str_inv; simp only [tyD, Option.some.injEq] at e; subst e; exact .base (.str b)
  | tup ds => obtain ⟨a, vs, rfl, h, _⟩ := r.tup_inv; simp only [tyD, Option.some.injEq] at e; subst e; exact tyx_tup h
  | ref n =>
    obtain ⟨a, rfl, m⟩ := r.ref_inv
    simp only [tyD] at e
    split at e
    · rename_i xs hn
      cases e
      obtain ⟨vs, h, _⟩ := hr.lst hn m
      exact tyx_list (SqL.of h)
    · rename_i xs hn
      cases e
      obtain ⟨a', e1, vs, e2, _⟩ := hr.at' n _ hn
      rw [m] at e1; cases e1
      exact tyx_list e2.sq
    · cases e
  | fn k => simp [tyD] at e
  | err a => simp [tyD] at e
  | exf a n dd => simp [tyD] at e
theorem isTy_ok {K : PySem.W.Frag} {d : D} {t : String} {T : Ty} {b : Bool} (e : tyD d π = some t) (h : isTy d π T = some b) : PySem.W.kitOne K (.type t) (.type T.name) = some b := by
  obtain ⟨t1, t2, t3, t4, t5, t6⟩ := kit_tab T
  cases d with
  | non => simp only [tyD, isTy, Option.some.injEq] at e h; subst e h; exact kit_ty t1
  | bl b => simp only [tyD, isTy, Option.some.injEq] at e h; subst e h; exact kit_ty t2
  | int b => simp only [tyD, isTy, Option.some.injEq] at e h; subst e h; exact kit_ty t3
  | str b => simp only [tyD, isTy, Option.some.injEq] at e h; subst e h; exact kit_ty t4
  | tup ds => simp only [tyD, isTy, Option.some.injEq] at e h; subst e h; exact kit_ty t5
  | ref n =>
    simp only [tyD, isTy] at e h
    split at e
    · rename_i xs hn
      cases e
      rw [hn] at h
      simp only [Option.some.injEq] at h
      subst h
      exact kit_ty t6
    · rename_i xs hn
      cases e
      rw [hn] at h
      simp only [Option.some.injEq] at h
      subst h
      exact kit_ty t6
    · cases e
  | fn k => simp [tyD] at e
  | err a => simp [tyD] at e
  | exf a n dd => simp [tyD] at e
theorem isAny_ok {K : PySem.W.Frag} {d : D} {t : String} (e : tyD d π = some t) : ∀ {Ts : List Ty} {b : Bool}, isAny d π Ts = some b → PySem.W.kitAny K (.type t) (Ts.map fun T => Value.type T.name) = some b
  | [], b, h => by simp only [isAny, Option.some.injEq] at h; subst h; exact kitAny_nil
  | T :: Ts, b, h => by
    simp only [isAny] at h
    cases q : isTy d π T with
    | none => rw [q] at h; cases h
    | some k =>
      rw [q] at h
      refine kitAny_cons (isTy_ok e q) (fun z => ?_) (fun z => ?_)
      · subst z; exact isAny_ok e h
      · subst z; simp only [Option.some.injEq] at h; exact h.symm
end
section
variable {X : Cx} {w : Wd} {W : WX} {pos p p1 p2 p3 p4 p5 : Pos} {a : Expr} {ea : Ev} {T T1 T2 T3 : Ty} {y y1 y2 y3 : Str}
/-- the name of a built-in type -/
structure TyN (X : Cx) (y : Str) (T : Ty) : Prop where
  g : Gl X y
  m : X.mg y = none
  b : bootBuiltins y = some (.type T.name)
  n : y ≠ "__name__"
  d : (y == ("__debug__" : Str)) = false
theorem TyN.pe (h : TyN X y T) : PE X (.Name y pos) (tC (.ty T.name)) := pe_bltn h.g h.m h.b rfl h.n h.d
theorem de_isi1 (hK : X.K = w.K) (hg : Gl X "isinstance") (hm : X.mg "isinstance" = none) (hb : bootBuiltins "isinstance" = some (.builtin "isinstance")) (ha : PE X a (tD w W ea)) (hT : TyN X y T)
    (he : starEach [a, .Name y p1] X.env = (false, eval a X.env) :: starEach [.Name y p1] X.env := by rfl) (hpl : (backTo pos (starEach [.Name y p1] X.env)).any (·.1) = false := by rfl) (he2 : starEach [.Name y p1] X.env = (false, eval (.Name y p1) X.env) :: starEach [] X.env := by rfl) :
    PE X (.Call (.Name "isinstance" p) [a, .Name y p1] [] pos) (tD w W (eIsi [T] ea)) := by
  refine (pe_callB call_isi hg hm hb (pa_cons ha (pa_cons hT.pe pa_nil he2) he) (he := he) (hpl := hpl)).imp fun σ H Q ⟨ρ, π, μ, sr, q⟩ => ⟨ρ, π, μ, sr, po_bind q fun d π1 v H1 μ1 g hr rd q1 => ?_⟩
  split at q1
  · rename_i t b e1 e2
    rw [hK]
    have q2 : isTy d π1 T = some b := by
      simp only [isAny] at e2
      cases q : isTy d π1 T with
      | none => rw [q] at e2; cases e2
      | some k =>
        rw [q] at e2
        cases k with
        | true => exact e2
        | false => exact e2
    exact ⟨v, .ty T.name, .type t, .type T.name, b, rfl, .ty _, tyD_ok hr rd e1, isTy_ok e1 q2, po_bl q1 hr⟩
  · exact q1.elim
theorem clsV_tys : ∀ Ts : List Ty, Paired ClsV (Ts.map fun T => V.ty T.name) (Ts.map fun T => Value.type T.name)
  | [] => .nil
  | T :: Ts => .cons (.ty _) (clsV_tys Ts)
theorem isiT_core {Ts : List Ty} {σ : L2.St} {H : Hp} {Q : VK} (hTs : Ts.length ≤ LEN) (h : tD w W (eIsi Ts ea) σ H Q) :
    tCB (rIsiT w.K) (tCons (tD w W ea) (tCons (tTup (fun σ H Q => Q (Ts.map fun T => V.ty T.name) H)) tNil)) σ H Q := by
  obtain ⟨ρ, π, μ, sr, q⟩ := h
  refine ⟨ρ, π, μ, sr, po_bind q fun d π1 v H1 μ1 g hr rd q1 => ⟨by rw [List.length_map]; exact len_ok hTs, fun p hp => ?_⟩⟩
  split at q1
  · rename_i t b e1 e2
    have g2 : Grow w.K H1 μ1 (upd H1 p (.tup (Ts.map fun T => V.ty T.name))) μ1 := Grow.fresh hp
    have hr2 := hr.fresh (o := .tup (Ts.map fun T => V.ty T.name)) hp
    refine ⟨v, p, _, .type t, Ts.map (fun T => Value.type T.name), b, rfl, upd_same, ?_, tyD_ok hr2 (rd.grow g2) e1, isAny_ok e1 e2, ?_⟩
    · exact clsV_tys Ts
    · exact q1 _ _ μ1 g2 hr2 (by unfold rD; unfold RD; rfl)
  · exact q1.elim
theorem de_isi2 {k2} (hK : X.K = w.K) (hg : Gl X "isinstance") (hm : X.mg "isinstance" = none) (hb : bootBuiltins "isinstance" = some (.builtin "isinstance")) (ha : PE X a (tD w W ea)) (h1 : TyN X y1 T1) (h2 : TyN X y2 T2)
    (he : starEach [a, .Tuple [.Name y1 p1, .Name y2 p2] k2 p3] X.env = (false, eval a X.env) :: starEach [.Tuple [.Name y1 p1, .Name y2 p2] k2 p3] X.env := by rfl) (hpl : (backTo pos (starEach [.Tuple [.Name y1 p1, .Name y2 p2] k2 p3] X.env)).any (·.1) = false := by rfl)
    (he2 : starEach [.Tuple [.Name y1 p1, .Name y2 p2] k2 p3] X.env = (false, eval (.Tuple [.Name y1 p1, .Name y2 p2] k2 p3) X.env) :: starEach [] X.env := by rfl)
    (he3 : starEach [.Name y1 p1, .Name y2 p2] X.env = (false, eval (.Name y1 p1) X.env) :: starEach [.Name y2 p2] X.env := by rfl) (he4 : starEach [.Name y2 p2] X.env = (false, eval (.Name y2 p2) X.env) :: starEach [] X.env := by rfl) :
    PE X (.Call (.Name "isinstance" p) [a, .Tuple [.Name y1 p1, .Name y2 p2] k2 p3] [] pos) (tD w W (eIsi [T1, T2] ea)) :=
  (pe_callB call_isiT hg hm hb (pa_cons ha (pa_cons (pe_tup (pa_cons h1.pe (pa_cons h2.pe pa_nil he4) he3)) pa_nil he2) he) (he := he) (hpl := hpl)).imp fun σ H Q h => by
    rw [hK]
    exact isiT_core (Ts := [T1, T2]) (by show 2 ≤ LEN; decide) h
end

/-! ### raise, try -/
def sRaise0 (c : Nat) : Sv := fun ρ π => .exc ⟨c, none⟩ ρ π
def unslot (i : Nat) (r : RS) : RS := match r with
  | .nx ρ π => .nx (ρ.set i none) π
  | .bk ρ π => .bk (ρ.set i none) π
  | .ct ρ π => .ct (ρ.set i none) π
  | .rt d π => .rt d π
  | .exc _ _ _ => .bad
  | .bad => .bad
/-- try: body / except X as n: suite; hit: the classes that the clause takes -/
def sTryAs (body : Sv) (i : Nat) (hit : Nat → Option Bool) (hsA : Addr → EX → Sv) : Sv := fun ρ π => match body ρ π with
  | .exc e ρ1 π1 => match hit e.c with
    | some true => unslot i (hsA 0 e (ρ1.set i (some (.err 0))) π1)
    | some false => .exc e ρ1 π1
    | none => .bad
  | r => r
section
variable {X : Cx} {w : Wd} {W : WX} {pos p np pos' : Pos} {x n : Str} {C : Addr} {c : Nat} {bmB : List Value} {B newId initId : String}
/-- X() -/
theorem pmk_own0 (F : ExcBaseFacts B newId initId bmB) (q : PySem.W.excIn X.K C bmB newId = true) (gC : X.mg x = some (.ref C)) (kC : PySem.W.keepIn X.K (.ref C) = true) (r : Raises X (.ref C)) (hg : Gl X x)
    (hdb : (x == ("__debug__" : Str)) = false := by decide) : PMk X (.Call (.Name x p) [] [] pos) (fun _ H Q => Q (.ref C) none H) := by
  intro pins s σ H Q I h
  refine wpAny_Call_Name_kw (ld_glob I hg gC ?_ hdb)
  refine PySem.W.callWith_K0 I.kIn kC ?_
  obtain ⟨bm, N, nm, qn, bs, hdct, sn, sub, ab, col, dd, k0, k1, k2, k3, k5, mN, hC, hN, hni, T⟩ := exc_obj I.kIn q
  refine wpAny_call_exc_subT F T hC hN hni (fun h' e hm => ?_) (by show 0 ≤ sizeLine; exact Nat.zero_le _)
  exact mk_of I hm r h (I.hok.gone hm.new)
theorem ds_raise0 (hc : X.calm = true) (tk : Takes X W) (F : ExcBaseFacts B newId initId bmB) (q : PySem.W.excIn X.K C bmB newId = true) (gC : X.mg x = some (.ref C)) (kC : PySem.W.keepIn X.K (.ref C) = true) (r : Raises X (.ref C)) (hg : Gl X x) (he : w.ec c = some C)
    (hdb : (x == ("__debug__" : Str)) = false := by decide) : PS X (.Raise (some (.Call (.Name x p) [] [] pos)) none pos') (tS w W (sRaise0 c)) :=
  (ps_raise hc tk (pmk_own0 F q gC kC r hg hdb)).imp fun E σ H ⟨ρ, π, μ, sr, h⟩ => h C none σ H μ he Grow.refl sr rfl
variable {i : Nat} {body suite : List Stmt} {b₀ : Stmt} {sb : Sv} {hit : Nat → Option Bool} {cl : Value} {hsA : Addr → EX → Sv}
theorem SR.unset {K : PySem.W.Frag} {fa : FA} {H : Hp} {μ : List Addr} {ρ : RO} {π : PH} {σ : L2.St} {o : Option V} (i : Nat) (s : SR K fa H μ ρ π σ) : SR K fa H μ (ρ.set i none) π (σ.set i o) := by
  refine ⟨s.hr, fun j x e => ?_, by simp [s.ln]⟩
  by_cases hj : i = j
  · subst hj
    by_cases hl : i < ρ.length
    · rw [List.getElem?_set_self hl] at e; cases e
    · rw [List.getElem?_eq_none (by simpa using hl)] at e; cases e
  · rw [List.getElem?_set_ne hj] at e ⊢
    exact s.lc j x e
theorem ds_tryAs (hs1 : X.stack = X.env :: X.outer) (hf : X.env.frame = some X.env.locals) (hN : X.N.Nodup) (hi : X.N[i]? = some n) (hln : X.env.kindOf n = some .local) (hc : Names X x cl) (tk : Takes X W)
    (hhit : ∀ c C b, w.ec c = some C → hit c = some b → PySem.W.exmOne X.K (.ref C) cl = some b)
    (hb : ∀ (W' : WX) (pn : List (Addr × Obj)) (xe : Value → Shared → Prop), Takes (X.tr pn xe) W' → PassesOwn (model X.prog X.w) X.A X.env xe → PSs (X.tr pn xe) body (tS w W' sb))
    (hsu : ∀ (a : Addr) (oe : Obj) (C : Addr) (d : Option Addr) (pn : List (Addr × Obj)) (e : EX), Zc (.ref C) d oe → (∃ vs, oe.data = .fields vs) → w.ec e.c = some C → hit e.c = some true → (e.a = none → d = none) → PSs (X.suite a ((a, oe) :: pn)) (b₀ :: suite) (tS w W0 (hsA a e)))
    (hind : ∀ (a : Addr) (e : EX) (ρ : RO) (π : PH), hsA a e (ρ.set i (some (.err a))) π = hsA 0 e (ρ.set i (some (.err 0))) π) :
    PS X (.Try body [.ExceptHandler (some (.Name x np)) (some n) (b₀ :: suite) pos'] [] [] pos) (tS w W (sTryAs sb i hit hsA)) := by
  refine (ps_try_as (tb := fun W' => tS w W' sb) (ts := fun a cls d E σ H => ∃ C e, cls = .ref C ∧ w.ec e.c = some C ∧ hit e.c = some true ∧ (e.a = none → d = none) ∧ tS w W0 (hsA a e) E σ H) (Wout := W) hs1 hf hN hi hln hc tk hb (fun a oe cls d pn hz hfl => ?_)).imp fun E σ H ⟨ρ, π, μ, sr, h⟩ => ⟨ρ, π, μ, sr, ?_⟩
  · refine ⟨fun pins s σ H E I ⟨C, e, hcl, hec, hh, hd0, h⟩ => ?_⟩
    subst hcl
    exact (hsu a oe C d pn e hz hfl hec hh hd0).run pins s σ H E I h
  · unfold sTryAs at h
    cases eb : sb ρ π with
    | nx ρ1 π1 => rw [eb] at h; exact h
    | rt d1 π1 => rw [eb] at h; exact h
    | bk ρ1 π1 => rw [eb] at h; exact h
    | ct ρ1 π1 => rw [eb] at h; exact h
    | bad => rw [eb] at h; exact h
    | exc e ρ1 π1 =>
      rw [eb] at h
      intro C dx σ' H' μ' hec g sr' rx
      simp only at h
      cases hh : hit e.c with
      | none => rw [hh] at h; exact h.elim
      | some b =>
        rw [hh] at h
        refine ⟨b, hhit e.c C b hec hh, fun hbt a ha => ?_, fun hbf => ?_⟩
        · subst hbt
          refine ⟨C, e, rfl, hec, hh, (fun z => by unfold RX at rx; rw [z] at rx; exact rx), ρ1.set i (some (.err a)), π1, μ', sr'.set i (by unfold RD; rfl), ?_⟩
          rw [hind]
          have h2 := PoS.grow g h
          simp only at h2
          cases er : hsA 0 e (ρ1.set i (some (.err 0))) π1 with
          | nx ρ2 π2 => rw [er] at h2; exact fun σ2 H2 μ2 g2 sr2 => h2 _ H2 μ2 g2 (sr2.unset i)
          | bk ρ2 π2 => rw [er] at h2; exact fun σ2 H2 μ2 g2 sr2 => h2 _ H2 μ2 g2 (sr2.unset i)
          | ct ρ2 π2 => rw [er] at h2; exact fun σ2 H2 μ2 g2 sr2 => h2 _ H2 μ2 g2 (sr2.unset i)
          | rt d2 π2 => rw [er] at h2; exact h2
          | exc e2 ρ2 π2 => rw [er] at h2; exact h2.elim
          | bad => rw [er] at h2; exact h2.elim
        · subst hbf
          exact h C dx σ' H' μ' hec g sr' rx
/-- isinstance(error, T) in the suite -/
def eIsErr (i : Nat) (a : Addr) (b : Bool) : Ev := fun ρ π => match ρ[i]? with
  | some (some (.err a')) => if a' = a then .ok (.bl b) π else .bad
  | _ => .bad
theorem eIsErr_ind (i : Nat) (b : Bool) (a : Addr) (ρ : RO) (π : PH) : eIsErr i a b (ρ.set i (some (.err a))) π = eIsErr i 0 b (ρ.set i (some (.err 0))) π := by
  unfold eIsErr
  by_cases h : i < ρ.length
  · rw [List.getElem?_set_self h, List.getElem?_set_self h]
    simp
  · rw [List.getElem?_eq_none (by simpa using h), List.getElem?_eq_none (by simpa using h)]
theorem eIsErr_or (i : Nat) (b : Bool) (a : Addr) (ρ : RO) (π : PH) : eIsErr i a b ρ π = .ok (.bl b) π ∨ eIsErr i a b ρ π = .bad := by
  unfold eIsErr
  split
  · split
    · exact .inl rfl
    · exact .inr rfl
  · exact .inr rfl
theorem de_isErr {a D : Addr} {oe : Obj} {pn : List (Addr × Obj)} {e : Expr} {y : Str} {b : Bool} {T : String} {p1 p2 : Pos} (EC : ExcC X.K D) (hz : Zc (.ref D) none oe) (hf : ∃ vs, oe.data = .fields vs)
    (hg : Gl (X.suite a ((a, oe) :: pn)) "isinstance") (hm : X.mg "isinstance" = none) (hb : bootBuiltins "isinstance" = some (.builtin "isinstance")) (hv : PE (X.suite a ((a, oe) :: pn)) e (tVar i))
    (hy : PE (X.suite a ((a, oe) :: pn)) (.Name y p1) (tC (.ty T))) (hk : PySem.W.kitOne X.K (.ref D) (.type T) = some b)
    (he : starEach [e, .Name y p1] (X.suite a ((a, oe) :: pn)).env = (false, eval e (X.suite a ((a, oe) :: pn)).env) :: starEach [.Name y p1] (X.suite a ((a, oe) :: pn)).env := by rfl) (hpl : (backTo pos (starEach [.Name y p1] (X.suite a ((a, oe) :: pn)).env)).any (·.1) = false := by rfl)
    (he2 : starEach [.Name y p1] (X.suite a ((a, oe) :: pn)).env = (false, eval (.Name y p1) (X.suite a ((a, oe) :: pn)).env) :: starEach [] (X.suite a ((a, oe) :: pn)).env := by rfl) :
    PE (X.suite a ((a, oe) :: pn)) (.Call (.Name "isinstance" p2) [e, .Name y p1] [] pos) (tD w W0 (eIsErr i a b)) := by
  refine (pe_callB (call_isE EC hz hf) hg hm hb (pa_cons hv (pa_cons hy pa_nil he2) he) (he := he) (hpl := hpl)).imp fun σ H Q ⟨ρ, π, μ, sr, q⟩ => ?_
  unfold eIsErr at q
  split at q
  · rename_i a' e1
    obtain ⟨v, e2, r⟩ := sr.lc i _ e1
    unfold RD at r
    subst r
    split at q
    · rename_i ea
      subst ea
      exact ⟨_, e2, .ty T, .type T, b, rfl, fun u r => r, hk, po_bl q sr.hr⟩
    · exact q.elim
  · exact q.elim
end
end Lb
set_option Elab.async false
set_option linter.all false
set_option maxRecDepth 100000
set_option maxHeartbeats 4000000
namespace Lb
open PySem PySem.Spec PyProof.Rows L2

/-- a def of the program: it stands, and does at level k what g does -/
structure Ent (P : Program) (wd : World) (w : Wd) (mg : Str → Option Value) (base : Heap) (x : Str) (st : Stmt) (f : Addr) (fd : FuncData) (k : Nat) (ps : List Str) (g : ON) : Prop where
  ok : FnOk P wd w.K mg base (L2.CX P wd) k f fd ps (spD w g)
  at' : mg x = some (.ref f)
  fn : Fun w.K x x st f fd
section
variable {P : Program} {wd : World} {w : Wd} {mg : Str → Option Value} {base : Heap} {x : Str} {st : Stmt} {f : Addr} {fd : FuncData} {k : Nat} {ps : List Str} {g : ON}
theorem Ent.none (hm : mg x = some (.ref f)) (F : Fun w.K x x st f fd) : Ent P wd w mg base x st f fd k ps (fun _ _ => .bad) :=
  ⟨⟨fun vs H Q E ⟨ds, π, μ, hr, r, q⟩ => q.elim, fun A outer s H args us vs Q E hr e0 hb hv ⟨ds, π, μ, hrr, r, q⟩ => q.elim⟩, hm, F⟩
theorem Ent.up {j : Nat} (e : Ent P wd w mg base x st f fd k ps g) (h : k ≤ j) : Ent P wd w mg base x st f fd j ps g := ⟨e.ok.mono h, e.at', e.fn⟩
/-- how all parameters are given by place -/
def BindsAll (x : Str) (st : Stmt) (ps : List Str) : Prop := ∀ (kV doc pm : Value) (an : Option Addr) (cdv ct : Value) (us : List Value), us.length = ps.length → bindArgs (PySem.W.fnOf x x (defArgs st) (defBody st) (defScope st) .none kV doc pm an cdv ct) ⟨us, []⟩ = pure (ps.zip us)
def BindsKw (x : Str) (st : Stmt) (ps ks : List Str) (a b : Nat) (ix : List Nat) : Prop := ∀ (kV doc pm : Value) (an : Option Addr) (cdv ct : Value) (us ws : List Value), us.length = a → ws.length = b → bindArgs (PySem.W.fnOf x x (defArgs st) (defBody st) (defScope st) .none kV doc pm an cdv ct) ⟨us, ks.zip ws⟩ = pure (ps.zip (pick a b ix us ws))
theorem Ent.binds (e : Ent P wd w mg base x st f fd k ps g) (h : BindsAll x st ps) : Binds w.K fd ps [] := e.fn.binds h
theorem Ent.pbinds {ks : List Str} {a b : Nat} {ix : List Nat} (e : Ent P wd w mg base x st f fd k ps g) (h : BindsKw x st ps ks a b ix) : PBinds w.K fd ps ks a b ix := by
  obtain ⟨oc, od, kV, doc, pm, an, cdv, ct, osl, rfl, lk, hcd⟩ := e.fn.ex
  exact fun s us ws _ h1 h2 => .of_eq (h kV doc pm an cdv ct us ws h1 h2)
end
section
variable {X : Cx} {w : Wd} {W : WX} {x : Str} {st : Stmt} {f : Addr} {fd : FuncData} {k : Nat} {ps : List Str} {g : ON} {p pos : Pos} {e : Expr} {es : List Expr} {aa ab : Av} {kws : List Keyword} {ks : List Str} {a b : Nat} {ix : List Nat}
theorem de_callE (hK : X.K = w.K) (G : Ent X.prog X.w w X.mg X.base x st f fd k ps g) (hB : BindsAll x st ps) (hr : Room k X.A) (hg : Gl X x) (tk : Takes X W)
    (ha : PA X (e :: es) (tA w W aa)) (hdb : (x == ("__debug__" : Str)) = false := by decide) (he : starEach (e :: es) X.env = (false, eval e X.env) :: starEach es X.env := by rfl) (hpl : (backTo pos (starEach es X.env)).any (·.1) = false := by rfl) :
    PE X (.Call (.Name x p) (e :: es) [] pos) (tD w W (eCall g aa)) :=
  de_call (by rw [hK]; exact G.ok) hr hg G.at' (by rw [hK]; exact G.fn.kp) (by rw [hK]; exact G.binds hB) tk ha hdb he hpl
theorem de_callE0 (hK : X.K = w.K) (G : Ent X.prog X.w w X.mg X.base x st f fd k ps g) (hB : BindsAll x st ps) (hr : Room k X.A) (hg : Gl X x) (tk : Takes X W) (hdb : (x == ("__debug__" : Str)) = false := by decide) :
    PE X (.Call (.Name x p) [] [] pos) (tD w W (eCall g aNil)) :=
  de_call0 (by rw [hK]; exact G.ok) hr hg G.at' (by rw [hK]; exact G.fn.kp) (by rw [hK]; exact G.binds hB) tk hdb
theorem de_callEK (hK : X.K = w.K) (hps : ps ≠ []) (G : Ent X.prog X.w w X.mg X.base x st f fd k ps g) (hB : BindsKw x st ps ks a b ix) (hr : Room k X.A) (hg : Gl X x) (tk : Takes X W)
    (ha : PA X (e :: es) (tA w W aa)) (hkw : PK X kws (tA w W ab)) (hall : (backToKw pos (keywordEach kws X.env)).all (·.1.isSome) = true := by rfl) (hks : (backToKw pos (keywordEach kws X.env)).filterMap (·.1) = ks := by rfl)
    (hdb : (x == ("__debug__" : Str)) = false := by decide) (he : starEach (e :: es) X.env = (false, eval e X.env) :: starEach es X.env := by rfl)
    (hpl : ((backTo pos (starEach (e :: es) X.env)).any (·.1) || (backToKw pos (keywordEach kws X.env)).any (·.1.isNone)) = false := by rfl) :
    PE X (.Call (.Name x p) (e :: es) kws pos) (tD w W (eCallK g (pick a b ix) aa ab)) :=
  de_callK hps (by rw [hK]; exact G.ok) hr hg G.at' (by rw [hK]; exact G.fn.kp) (by rw [hK]; exact G.pbinds hB) tk ha hkw hall hks hdb he hpl
theorem de_callEK0 (hK : X.K = w.K) (hps : ps ≠ []) (G : Ent X.prog X.w w X.mg X.base x st f fd k ps g) (hB : BindsKw x st ps ks a b ix) (hr : Room k X.A) (hg : Gl X x) (tk : Takes X W)
    (hkw : PK X kws (tA w W ab)) (hall : (backToKw pos (keywordEach kws X.env)).all (·.1.isSome) = true := by rfl) (hks : (backToKw pos (keywordEach kws X.env)).filterMap (·.1) = ks := by rfl)
    (hdb : (x == ("__debug__" : Str)) = false := by decide)
    (hpl : ((backTo pos (starEach [] X.env)).any (·.1) || (backToKw pos (keywordEach kws X.env)).any (·.1.isNone)) = false := by rfl) :
    PE X (.Call (.Name x p) [] kws pos) (tD w W (eCallK g (pick a b ix) aNil ab)) :=
  de_callK0 hps (by rw [hK]; exact G.ok) hr hg G.at' (by rw [hK]; exact G.fn.kp) (by rw [hK]; exact G.pbinds hB) tk hkw hall hks hdb hpl
end
/-- an own error class without fields, and what is asked of it -/
structure Err0 (K : PySem.W.Frag) (mg : Str → Option Value) (x : Str) (C : Addr) (bm : List Value) (newId : String) : Prop where
  g : mg x = some (.ref C)
  xc : PySem.W.excIn K C bm newId = true
  kp : PySem.W.keepIn K (.ref C) = true
  sb : PySem.W.subIn K (.ref C) (.type "BaseException") = some true
  ty : PySem.W.typeIn K (.ref C) = some (.type "type")
theorem Err0.raises {X : Cx} {x : Str} {C : Addr} {bm : List Value} {newId : String} (h : Err0 X.K X.mg x C bm newId) : Raises X (.ref C) := raises_own h.sb h.ty
theorem ds_raiseE {X : Cx} {w : Wd} {W : WX} {pos p pos' : Pos} {x : Str} {C : Addr} {c : Nat} {bmB : List Value} {B newId initId : String} (hK : X.K = w.K) (F : ExcBaseFacts B newId initId bmB) (h : Err0 w.K X.mg x C bmB newId) (hc : X.calm = true) (tk : Takes X W) (hg : Gl X x) (he : w.ec c = some C)
    (hdb : (x == ("__debug__" : Str)) = false := by decide) : PS X (.Raise (some (.Call (.Name x p) [] [] pos)) none pos') (tS w W (sRaise0 c)) :=
  ds_raise0 hc tk F (by rw [hK]; exact h.xc) h.g (by rw [hK]; exact h.kp) (Err0.raises (by rw [hK]; exact h)) hg he hdb
/-- .. caught by its own name, asked by isinstance -/
structure ErrT (K : PySem.W.Frag) (C : Addr) : Prop where
  te : PySem.W.exmOne K (.ref C) (.ref C) = some true
  ex : ExcC K C
theorem hit_one {w : Wd} {K : PySem.W.Frag} {c0 : Nat} {C0 : Addr} (h : w.ec c0 = some C0) (te : PySem.W.exmOne K (.ref C0) (.ref C0) = some true) (c : Nat) (C : Addr) (b : Bool) (hc : w.ec c = some C) (hh : (if c = c0 then some true else none) = some b) :
    PySem.W.exmOne K (.ref C) (.ref C0) = some b := by
  by_cases e : c = c0
  · subst e
    rw [if_pos rfl] at hh
    cases hh
    rw [h] at hc
    cases hc
    exact te
  · rw [if_neg e] at hh; cases hh
theorem hit_inv {w : Wd} {c c0 : Nat} {C C0 : Addr} (h : w.ec c0 = some C0) (hc : w.ec c = some C) (hh : (if c = c0 then some true else none) = some true) : C = C0 := by
  by_cases e : c = c0
  · subst e
    rw [h] at hc
    cases hc
    rfl
  · rw [if_neg e] at hh; cases hh
/-- a suite for an error that keeps nothing -/
def onNone (e : EX) (s : Sv) : Sv := match e.a with
  | none => s
  | some _ => fun _ _ => .bad
theorem suite_none {X : Cx} {w : Wd} {C C0 : Addr} {d : Option Addr} {oe : Obj} {e : EX} {sts : List Stmt} {s : Sv} (hC : C = C0) (hd : e.a = none → d = none) (hz : Zc (.ref C) d oe) (k : Zc (.ref C0) none oe → PSs X sts (tS w W0 s)) : PSs X sts (tS w W0 (onNone e s)) := by
  subst hC
  unfold onNone
  cases q : e.a with
  | none => exact k (by rw [hd q] at hz; exact hz)
  | some n => exact ⟨fun pins st σ H E I ⟨ρ, π, μ, sr, h⟩ => h.elim⟩
/-- a, b, c = x, y, z with plain local names -/
def sPar3 (i j l : Nat) (ea eb ec' : Ev) : Sv := fun ρ π => (ea ρ π).then ρ fun x π1 => (eb ρ π1).then ρ fun y π2 => (ec' ρ π2).then ρ fun z π3 => .nx (((ρ.set i (some x)).set j (some y)).set l (some z)) π3
theorem ds_par3 {X : Cx} {w : Wd} {W : WX} {i j l : Nat} {x y z : Str} {a b c : Expr} {ea eb ec' : Ev} {px py pz pt pos : Pos} {kt k2 pt2} (hc : X.calm = true) (hN : X.N.Nodup) (hi : X.N[i]? = some x) (hj : X.N[j]? = some y) (hl : X.N[l]? = some z) (hij : i ≠ j) (hil : i ≠ l) (hjl : j ≠ l)
    (hx : X.env.scope.names.lookup x = some .local) (hy : X.env.scope.names.lookup y = some .local) (hz : X.env.scope.names.lookup z = some .local) (ha : PE X a (tD w W ea)) (hb : PE X b (tD w W eb)) (hcc : PE X c (tD w W ec'))
    (hw : swappedStores [.Tuple [.Name x px, .Name y py, .Name z pz] kt pt] (.Tuple [a, b, c] k2 pt2) X.env = pure (some [x, y, z]))
    (hs : swapsWithSole [.Tuple [.Name x px, .Name y py, .Name z pz] kt pt] (.Tuple [a, b, c] k2 pt2) pos.line X.env = pure false := by rfl)
    (h1 : starEach [a, b, c] X.env = (false, eval a X.env) :: starEach [b, c] X.env := by rfl) (h2 : starEach [b, c] X.env = (false, eval b X.env) :: starEach [c] X.env := by rfl) (h3 : starEach [c] X.env = (false, eval c X.env) :: starEach [] X.env := by rfl) :
    PS X (.Assign [.Tuple [.Name x px, .Name y py, .Name z pz] kt pt] (.Tuple [a, b, c] k2 pt2) pos) (tS w W (sPar3 i j l ea eb ec')) :=
  (ps_par3 hc hN hi hj hl hij hil hjl hx hy hz (pa_cons ha (pa_cons hb (pa_cons hcc pa_nil h3) h2) h1) hw hs).imp fun E σ H ⟨ρ, π, μ, sr, q⟩ => ⟨ρ, π, μ, sr, sr.post q fun d π1 v H1 μ1 g sr1 rd q1 =>
    ⟨ρ, π1, μ1, sr1, sr1.post q1 fun d2 π2 v2 H2 μ2 g2 sr2 rd2 q2 => ⟨ρ, π2, μ2, sr2, sr2.post q2 fun d3 π3 v3 H3 μ3 g3 sr3 rd3 q3 =>
      ⟨v, v2, v3, rfl, pos_nx q3 (((sr3.set i ((rd.grow g2).grow g3)).set j (rd2.grow g3)).set l rd3)⟩⟩⟩⟩
/-! ### the end -/
def spLaw (K : PySem.W.Frag) (g : ON) : Sp := fun vs H Q _ => ∃ (a : Addr) (ns : List Int), vs = [.ref a] ∧ SqF K H a (ns.map V.int) ∧ (∃ π', g [.ref 0] [.scr (ns.map D.int)] = .ok (.bl true) π') ∧ ∀ H', Q (.bl true) H'
theorem rds_ints {K : PySem.W.Frag} {fa : FA} {H : Hp} {μ : List Addr} : ∀ ns : List Int, RDs K fa H μ (ns.map D.int) (ns.map V.int)
  | [] => .nil
  | n :: ns => .cons (by unfold RD; rfl) (rds_ints ns)
theorem sp_law {w : Wd} {g : ON} (vs : List V) (H : Hp) (Q : VK) (E : XK) (h : spLaw w.K g vs H Q E) : spD w g vs H Q E := by
  obtain ⟨a, ns, rfl, hs, ⟨π', e⟩, q⟩ := h
  refine ⟨[.ref 0], [.scr (ns.map D.int)], [a], ⟨rfl, fun n o en => ?_, fun n m b x y e1 e2 m1 m2 f1 f2 => ?_⟩, .cons (by unfold RD; exact ⟨a, rfl, rfl⟩) .nil, ?_⟩
  · cases n with
    | zero =>
      simp at en
      subst en
      exact ⟨a, rfl, ns.map V.int, hs, rds_ints ns⟩
    | succ n => simp at en
  · cases n with
    | zero =>
      simp at e1
      subst e1
      cases m1
    | succ n => simp at e1
  · rw [e]
    intro v H' μ' g hr rd
    unfold rD at rd
    unfold RD at rd
    subst rd
    exact q H'
theorem sqF_of {K : PySem.W.Frag} {H : Hp} {a : Addr} {xs : List V} (hO : Only H) (h : SqL K H a xs) : SqF K H a xs := by
  rcases h with (h | ⟨o, h⟩) | h
  · rcases hO a with z | ⟨o, ys, z⟩
    · rw [z] at h; cases h
    · rw [z] at h; cases h
  · exact .inl ⟨o, h⟩
  · exact .inr h
theorem cx_false {P : Program} {wd : World} {H : Hp} {s : Shared} {e : Value} {s' : Shared} (h : L2.CX P wd [] H s (fun _ _ _ => False) e s') : False := by
  obtain ⟨_, _, _, _, _, _, _, _, _, _, _, _, z⟩ := h
  exact z
/-- the head's facts of a def -/
theorem fun_at {K : PySem.W.Frag} {h : Heap} {mg : Str → Option Value} {x : Str} {st : Stmt} {f : Addr} {oc : Value} {od an : Option Addr} {osl : Array (Option Value)} {kV doc pm cdv ct : Value} (X : K.In h) (G : h.Ns mainGlobals mg)
    (a : PySem.W.nsIn K mainGlobals x = some (some (.ref f))) (l : K.lookup f = some ⟨oc, od, .func (PySem.W.fnOf x x (defArgs st) (defBody st) (defScope st) .none kV doc pm an cdv ct), osl⟩) (c : PySem.W.codeIn K cdv x = true) (k : PySem.W.keepIn K (.ref f) = true) :
    mg x = some (.ref f) ∧ Fun K x x st f (PySem.W.fnOf x x (defArgs st) (defBody st) (defScope st) .none kV doc pm an cdv ct) := ⟨PySem.W.mg_of X G a, fun_mk l c k⟩
theorem kit_sub {K : PySem.W.Frag} {C : Addr} {T : String} {b : Bool} (hm : PySem.W.kitMeta T = true) (h : PySem.W.subIn K (.ref C) (.type T) = some b) : PySem.W.kitOne K (.ref C) (.type T) = some b := by
  show (if (Value.ref C == Value.type T) = true then some true else (if PySem.W.kitMeta T = true then PySem.W.subIn K (.ref C) (.type T) else none)) = some b
  rw [if_neg (show ¬ (Value.ref C == Value.type T) = true from Bool.false_ne_true), if_pos hm]
  exact h
end Lb
set_option Elab.async false
set_option linter.all false
set_option maxRecDepth 100000
set_option maxHeartbeats 4000000
/-! plain mathematics: quotients in lowest terms; sizes -/
namespace Lb
open PySem

theorem log2_lt {n k : Nat} (h : n < 2 ^ k) (hk : 0 < k) : n.log2 < k := by
  by_cases h0 : n = 0
  · subst h0; simpa using hk
  · exact (Nat.log2_lt h0).mpr h
/-- p / q is in lowest terms -/
def Frac (p q : Int) : Prop := 0 < q ∧ Int.gcd p q = 1
theorem frac_dvd {p q u v : Int} (h : Frac p q) (e : p * v = u * q) : q ∣ v := by
  have c : Nat.Coprime q.natAbs p.natAbs := by
    have := h.2
    rw [Int.gcd_eq_natAbs_gcd_natAbs] at this
    exact (Nat.coprime_comm).mp this
  have d : q.natAbs ∣ p.natAbs * v.natAbs := by
    rw [← Int.natAbs_mul, e, Int.natAbs_mul]
    exact Nat.dvd_mul_left _ _
  exact Int.natAbs_dvd_natAbs.mp (c.dvd_of_dvd_mul_left d)
theorem frac_uniq {p q u v : Int} (h : Frac p q) (h' : Frac u v) (e : p * v = u * q) : p = u ∧ q = v := by
  have d1 := frac_dvd h e
  have d2 := frac_dvd h' e.symm
  have hq : q = v := Int.dvd_antisymm (Int.le_of_lt h.1) (Int.le_of_lt h'.1) d1 d2
  subst hq
  exact ⟨Int.eq_of_mul_eq_mul_right (Int.ne_of_gt h.1) e, rfl⟩
/-- the lowest terms of t / b -/
def lw (t b : Int) : Int × Int := (t / (Int.gcd t b : Int), b / (Int.gcd t b : Int))
theorem gcd_posR {t b : Int} (hb : b ≠ 0) : 0 < (Int.gcd t b : Int) := by
  have : 0 < Int.gcd t b := Int.gcd_pos_of_ne_zero_right _ hb
  omega
theorem lw_frac {t b : Int} (hb : 0 < b) : Frac (lw t b).1 (lw t b).2 ∧ (lw t b).1 * b = t * (lw t b).2 := by
  have g0 := gcd_posR (t := t) (Int.ne_of_gt hb)
  have d1 : (Int.gcd t b : Int) ∣ t := Int.gcd_dvd_left ..
  have d2 : (Int.gcd t b : Int) ∣ b := Int.gcd_dvd_right ..
  obtain ⟨x, hx⟩ := d1
  obtain ⟨y, hy⟩ := d2
  have e1 : t / (Int.gcd t b : Int) = x := Int.ediv_eq_of_eq_mul_right (Int.ne_of_gt g0) hx
  have e2 : b / (Int.gcd t b : Int) = y := Int.ediv_eq_of_eq_mul_right (Int.ne_of_gt g0) hy
  refine ⟨⟨?_, ?_⟩, ?_⟩
  · show 0 < b / (Int.gcd t b : Int)
    rw [e2]
    rcases Int.lt_trichotomy y 0 with h | h | h
    · have : (Int.gcd t b : Int) * y < 0 := Int.mul_neg_of_pos_of_neg g0 h
      omega
    · subst h; simp at hy; omega
    · exact h
  · exact Int.gcd_ediv_gcd_ediv_gcd_of_ne_zero_right (Int.ne_of_gt hb)
  · show t / (Int.gcd t b : Int) * b = t * (b / (Int.gcd t b : Int))
    rw [e1, e2]
    generalize (Int.gcd t b : Int) = g at *
    rw [hx, hy]
    simp only [Int.mul_assoc, Int.mul_left_comm, Int.mul_comm]
theorem lw_eq {t b p q : Int} (hb : 0 < b) (h : Frac p q) (e : p * b = t * q) : lw t b = (p, q) := by
  obtain ⟨h1, h2⟩ := lw_frac (t := t) hb
  have e' : p * (lw t b).2 = (lw t b).1 * q := by
    have : (p * (lw t b).2) * b = ((lw t b).1 * q) * b := by
      have a1 : (p * (lw t b).2) * b = (p * b) * (lw t b).2 := by simp only [Int.mul_assoc, Int.mul_left_comm, Int.mul_comm]
      have a2 : ((lw t b).1 * q) * b = ((lw t b).1 * b) * q := by simp only [Int.mul_assoc, Int.mul_left_comm, Int.mul_comm]
      rw [a1, a2, e, h2]
      simp only [Int.mul_assoc, Int.mul_left_comm, Int.mul_comm]
    exact Int.eq_of_mul_eq_mul_right (Int.ne_of_gt hb) this
  obtain ⟨e1, e2⟩ := frac_uniq h h1 e'
  exact Prod.ext e1.symm e2.symm
theorem lw_cross {t b u d : Int} (hb : 0 < b) (hd : 0 < d) (e : t * d = u * b) : lw t b = lw u d := by
  obtain ⟨h1, h2⟩ := lw_frac (t := u) hd
  refine lw_eq hb h1 ?_
  have : ((lw u d).1 * b) * d = (t * (lw u d).2) * d := by
    have a1 : ((lw u d).1 * b) * d = ((lw u d).1 * d) * b := by simp only [Int.mul_assoc, Int.mul_left_comm, Int.mul_comm]
    have a2 : (t * (lw u d).2) * d = (t * d) * (lw u d).2 := by simp only [Int.mul_assoc, Int.mul_left_comm, Int.mul_comm]
    rw [a1, a2, h2, e]
    simp only [Int.mul_assoc, Int.mul_left_comm, Int.mul_comm]
  exact Int.eq_of_mul_eq_mul_right (Int.ne_of_gt hd) this
theorem frac_pow {p q : Int} (h : Frac p q) (k : Nat) : Frac (p ^ k) (q ^ k) := ⟨Int.pow_pos h.1, Int.pow_gcd_pow_of_gcd_eq_one h.2⟩
/-- sizes -/
def Bd (i : Int) (k : Nat) : Prop := i.natAbs < 2 ^ k
theorem Bd.mul {i j : Int} {a b : Nat} (h1 : Bd i a) (h2 : Bd j b) : Bd (i * j) (a + b) := by
  unfold Bd
  rw [Int.natAbs_mul, Nat.pow_add]
  exact Nat.mul_lt_mul'' h1 h2
theorem Bd.mono {i : Int} {a b : Nat} (h : Bd i a) (hab : a ≤ b) : Bd i b := Nat.lt_of_lt_of_le h (Nat.pow_le_pow_right (by decide) hab)
theorem Bd.neg {i : Int} {a : Nat} (h : Bd i a) : Bd (-i) a := by unfold Bd; rw [Int.natAbs_neg]; exact h
theorem Bd.add {i j : Int} {a b : Nat} (h1 : Bd i a) (h2 : Bd j b) : Bd (i + j) (max a b + 1) := by
  have h1' := h1.mono (Nat.le_max_left a b)
  have h2' := h2.mono (Nat.le_max_right a b)
  unfold Bd at *
  have := Int.natAbs_add_le i j
  rw [Nat.pow_succ]
  omega
theorem Bd.sub {i j : Int} {a b : Nat} (h1 : Bd i a) (h2 : Bd j b) : Bd (i - j) (max a b + 1) := by rw [Int.sub_eq_add_neg]; exact h1.add h2.neg
theorem Bd.div {i j : Int} {a : Nat} (h1 : Bd i a) : Bd (i / j) a := by
  unfold Bd at *
  exact Nat.lt_of_le_of_lt (Int.natAbs_ediv_le_natAbs i j) h1
theorem Bd.mulOk {i j : Int} {a b : Nat} (h1 : Bd i a) (h2 : Bd j b) (h : a ≤ 499999 ∧ b ≤ 499999) : mulOk i j = true := by
  have x := bitsLt_of (h1.mono h.1)
  have y := bitsLt_of (h2.mono h.2)
  unfold Lb.mulOk
  rw [x, y, Bool.and_true, Bool.or_true, Bool.or_true]
theorem mulOk_left {i j : Int} (h : -(2 ^ 64) < i ∧ i < 2 ^ 64) : mulOk i j = true := by
  unfold Lb.mulOk smallM
  simp only [Bool.or_eq_true, Bool.and_eq_true, decide_eq_true_eq]
  exact .inl h
theorem mulOk_right {i j : Int} (h : -(2 ^ 64) < j ∧ j < 2 ^ 64) : mulOk i j = true := by
  unfold Lb.mulOk smallM
  simp only [Bool.or_eq_true, Bool.and_eq_true, decide_eq_true_eq]
  exact .inr (.inl h)
def divOk (j : Int) : Bool := decide (0 < j) && bitsLt j.natAbs 8999
theorem Bd.divOk {j : Int} {b : Nat} (h0 : 0 < j) (h : Bd j b) (hb : b ≤ 8999) : divOk j = true := by
  unfold Lb.divOk
  rw [Bool.and_eq_true]
  exact ⟨decide_eq_true h0, bitsLt_of (h.mono hb)⟩
theorem bd_gcd {t b : Int} {k : Nat} (hb : b ≠ 0) (h : Bd b k) : Bd (Int.gcd t b : Int) k := by
  unfold Bd at *
  rw [Int.natAbs_natCast]
  have : Int.gcd t b ∣ b.natAbs := by
    rw [Int.gcd_eq_natAbs_gcd_natAbs]
    exact Nat.gcd_dvd_right _ _
  exact Nat.lt_of_le_of_lt (Nat.le_of_dvd (by omega) this) h
theorem bd_of {i : Int} {k : Nat} (h1 : -(2 ^ k : Int) < i) (h2 : i < (2 ^ k : Int)) : Bd i k := by
  unfold Bd
  have : ((2 ^ k : Nat) : Int) = (2 : Int) ^ k := by simp
  omega
theorem Bd.pow {i : Int} {a : Nat} (h : Bd i a) : ∀ k : Nat, Bd (i ^ k) (a * k + 1)
  | 0 => by unfold Bd; simp
  | k + 1 => by
    rw [Int.pow_succ]
    have := (Bd.pow h k).mul h
    exact this.mono (by rw [Nat.mul_succ]; omega)
/-! equality of plain values -/
theorem eqv_int (π : PH) (i j : Int) : eqv π (.int i) (.int j) = some (i == j) := by
  unfold eqv
  rw [show toPy π 50 (.int i) = some (.int i) from rfl, show toPy π 50 (.int j) = some (.int j) from rfl]
  simp only
  rw [if_pos (show (SeqAt.shaped (.int i) && SeqAt.shaped (.int j)) = true by rfl)]
  simp [PyData.eqv]
theorem eqv_bl (π : PH) (i j : Bool) : eqv π (.bl i) (.bl j) = some (i == j) := by
  unfold eqv
  rw [show toPy π 50 (.bl i) = some (.bool i) from rfl, show toPy π 50 (.bl j) = some (.bool j) from rfl]
  simp only
  rw [if_pos (show (SeqAt.shaped (.bool i) && SeqAt.shaped (.bool j)) = true by rfl)]
  simp [PyData.eqv]
theorem eqv_str (π : PH) (i j : Str) (h1 : PyData.strOk i = true) (h2 : PyData.strOk j = true) : eqv π (.str i) (.str j) = some (i == j) := by
  unfold eqv
  rw [show toPy π 50 (.str i) = some (.str i) from rfl, show toPy π 50 (.str j) = some (.str j) from rfl]
  simp only
  rw [if_pos ?_]
  · simp [PyData.eqv]
  · unfold SeqAt.shaped
    simp [PyData.canLay0, h1, h2, PyData.depth]
theorem opEq_int (π : PH) (i j : Int) : opEq (.int i) (.int j) π = .ok (.bl (i == j)) π := by unfold opEq; rw [eqv_int]
theorem opNe_int (π : PH) (i j : Int) : opNe (.int i) (.int j) π = .ok (.bl (!(i == j))) π := by unfold opNe; rw [eqv_int]
theorem opEq_bl (π : PH) (i j : Bool) : opEq (.bl i) (.bl j) π = .ok (.bl (i == j)) π := by unfold opEq; rw [eqv_bl]
theorem opNe_bl (π : PH) (i j : Bool) : opNe (.bl i) (.bl j) π = .ok (.bl (!(i == j))) π := by unfold opNe; rw [eqv_bl]
end Lb
set_option Elab.async false
set_option linter.all false
set_option maxRecDepth 100000
set_option maxHeartbeats 4000000
/-! running the data programs -/
namespace Lb
open PySem
section
variable {s t : Sv} {ρ ρ1 : RO} {π π1 π2 : PH} {d x : D} {e : Ev} {i : Nat} {r : RS} {ex : EX}
theorem ex_seq (h : s ρ π = .nx ρ1 π1) (k : t ρ1 π1 = r) : sSeq s t ρ π = r := by unfold sSeq; rw [h]; exact k
theorem ex_seq_rt (h : s ρ π = .rt d π1) : sSeq s t ρ π = .rt d π1 := by unfold sSeq; rw [h]
theorem ex_seq_exc (h : s ρ π = .exc ex ρ1 π1) : sSeq s t ρ π = .exc ex ρ1 π1 := by unfold sSeq; rw [h]
theorem ex_set (h : e ρ π = .ok d π1) : sSet i e ρ π = .nx (ρ.set i (some d)) π1 := by unfold sSet; rw [h]; rfl
theorem ex_expr (h : e ρ π = .ok d π1) : sExpr e ρ π = .nx ρ π1 := by unfold sExpr; rw [h]; rfl
theorem ex_ret (h : e ρ π = .ok d π1) : sRet e ρ π = .rt d π1 := by unfold sRet; rw [h]; rfl
theorem ex_ifT {c : RO → PH → R Bool} (h : c ρ π = .ok true π1) (k : s ρ π1 = r) : sIf c s t ρ π = r := by unfold sIf; rw [h]; exact k
theorem ex_ifF {c : RO → PH → R Bool} (h : c ρ π = .ok false π1) (k : t ρ π1 = r) : sIf c s t ρ π = r := by unfold sIf; rw [h]; exact k
theorem ex_call {f : ON} {aa : Av} {ds : List D} (h : aa ρ π = .ok ds π1) (k : f ds π1 = .ok d π2) : eCall f aa ρ π = .ok d π2 := by unfold eCall; rw [h]; exact k
theorem ex_cons {aa : Av} {ds : List D} (h : e ρ π = .ok d π1) (k : aa ρ π1 = .ok ds π2) : aCons e aa ρ π = .ok (d :: ds) π2 := by unfold aCons; rw [h]; show (aa ρ π1).bind _ = _; rw [k]; rfl
theorem ex_nil : aNil ρ π = .ok [] π := rfl
theorem ex_bin {o : O2} {e2 : Ev} {y z : D} {π3 : PH} (h : e ρ π = .ok x π1) (h2 : e2 ρ π1 = .ok y π2) (k : o x y π2 = .ok z π3) : eBin o e e2 ρ π = .ok z π3 := by
  unfold eBin; rw [h]; show (e2 ρ π1).bind _ = _; rw [h2]; exact k
theorem ex_runB {n m : Nat} {ds : List D} (hl : ds.length = n) (h : s (ds.map some ++ List.replicate (m - n) none) π = .rt d π1) : runB n m s ds π = .ok d π1 := by
  unfold runB; rw [if_pos hl, h]
theorem ex_runB_nx {n m : Nat} {ds : List D} (hl : ds.length = n) (h : s (ds.map some ++ List.replicate (m - n) none) π = .nx ρ1 π1) : runB n m s ds π = .ok .non π1 := by
  unfold runB; rw [if_pos hl, h]
theorem ex_runB_exc {n m : Nat} {ds : List D} (hl : ds.length = n) (h : s (ds.map some ++ List.replicate (m - n) none) π = .exc ex ρ1 π1) : runB n m s ds π = .exc ex π1 := by
  unfold runB; rw [if_pos hl, h]
theorem le_LEN (n : Nat) : (n ≤ LEN) = (n ≤ 1000000) := rfl
theorem ex_lst {aa : Av} {ds : List D} (h : aa ρ π = .ok ds π1) (hl : ds.length ≤ LEN) : eLst aa ρ π = .ok (.ref π1.length) (π1 ++ [.lst ds]) := by unfold eLst; rw [h]; exact if_pos hl
theorem ex_tup {aa : Av} {ds : List D} (h : aa ρ π = .ok ds π1) (hl : ds.length ≤ LEN) : eTup aa ρ π = .ok (.tup ds) π1 := by unfold eTup; rw [h]; exact if_pos hl
end
/-! operators -/
section
variable {π : PH} {i j : Int} {n m : Nat} {xs ys : List D} {a b c d : D} {r : List D}
theorem opAdd_int : opAdd (.int i) (.int j) π = .ok (.int (i + j)) π := rfl
theorem opSub_int : opSub (.int i) (.int j) π = .ok (.int (i - j)) π := rfl
theorem opNeg_int : opNeg (.int i) π = .ok (.int (-i)) π := rfl
theorem cmpI_int {f : Int → Int → Bool} : cmpI f (.int i) (.int j) π = .ok (.bl (f i j)) π := rfl
theorem opDiv_ok (h : divOk j = true) : opDiv (.int i) (.int j) π = .ok (.int (i / j)) π := by unfold opDiv; exact if_pos h
theorem opMul_ok (h : mulOk i j = true) : opMul (.int i) (.int j) π = .ok (.int (i * j)) π := by unfold opMul; exact if_pos h
theorem opMod_ok (h : 0 < j) : opMod (.int i) (.int j) π = .ok (.int (i % j)) π := by unfold opMod; exact if_pos h
theorem opShr_ok (h : 0 ≤ j) : opShr (.int i) (.int j) π = .ok (.int (i / 2 ^ j.toNat)) π := by unfold opShr; exact if_pos h
theorem opAdd_ll (h1 : π[n]? = some (.lst xs)) (h2 : π[m]? = some (.lst ys)) (hl : xs.length + ys.length ≤ LEN) : opAdd (.ref n) (.ref m) π = .ok (.ref π.length) (π ++ [.lst (xs ++ ys)]) := by
  unfold opAdd; simp only [h1, h2]; exact if_pos hl
theorem atI_0 {α : Type} (a : α) (r : List α) : L2.atI (a :: r) 0 = some a := L2.atI_nat (xs := a :: r) (j := 0) rfl
theorem atI_1 {α : Type} (a b : α) (r : List α) : L2.atI (a :: b :: r) 1 = some b := L2.atI_nat (xs := a :: b :: r) (j := 1) rfl
theorem atI_2 {α : Type} (a b c : α) (r : List α) : L2.atI (a :: b :: c :: r) 2 = some c := L2.atI_nat (xs := a :: b :: c :: r) (j := 2) rfl
theorem opIx_tup {i : Int} (h : L2.atI xs i = some a) : opIx (.tup xs) (.int i) π = .ok a π := by unfold opIx items; simp only [h]
theorem opIx_ref {i : Int} (h1 : π[n]? = some (.lst xs)) (h : L2.atI xs i = some a) : opIx (.ref n) (.int i) π = .ok a π := by unfold opIx items; simp only [h1, h]
theorem opIx_t0 : opIx (.tup (a :: r)) (.int 0) π = .ok a π := opIx_tup (atI_0 _ _)
theorem opIx_t1 : opIx (.tup (a :: b :: r)) (.int 1) π = .ok b π := opIx_tup (atI_1 _ _ _)
theorem opIx_r0 (h : π[n]? = some (.lst (a :: r))) : opIx (.ref n) (.int 0) π = .ok a π := opIx_ref h (atI_0 _ _)
theorem opIx_r1 (h : π[n]? = some (.lst (a :: b :: r))) : opIx (.ref n) (.int 1) π = .ok b π := opIx_ref h (atI_1 _ _ _)
theorem opIx_r2 (h : π[n]? = some (.lst (a :: b :: c :: r))) : opIx (.ref n) (.int 2) π = .ok c π := opIx_ref h (atI_2 _ _ _ _)
theorem bInt_int : bInt [.int i] π = .ok (.int i) π := rfl
theorem bInt_bl {k : Bool} : bInt [.bl k] π = .ok (.int (if k then 1 else 0)) π := rfl
theorem bAbs_int : bAbs [.int i] π = .ok (.int (if i < 0 then -i else i)) π := rfl
theorem abs_nat (i : Int) : (if i < 0 then -i else i) = (i.natAbs : Int) := by split <;> omega
theorem bAbs_nat : bAbs [.int i] π = .ok (.int (i.natAbs : Nat)) π := by rw [bAbs_int, abs_nat]
theorem bGcd_int : bGcd [.int i, .int j] π = .ok (.int ((Nat.gcd i.natAbs j.natAbs : Nat) : Int)) π := rfl
theorem bLen_tup : bLen [.tup xs] π = .ok (.int xs.length) π := rfl
theorem bLen_ref (h : π[n]? = some (.lst xs)) : bLen [.ref n] π = .ok (.int xs.length) π := by unfold bLen items; simp only [h]
end
/-! stores -/
/-- all that stood in π stands in π', but what M names -/
def Fr (M : List Nat) (π π' : PH) : Prop := ∀ i c, i ∉ M → π[i]? = some c → π'[i]? = some c
theorem Fr.refl {M : List Nat} {π : PH} : Fr M π π := fun _ _ _ h => h
theorem Fr.trans {M : List Nat} {a b c : PH} (h : Fr M a b) (k : Fr M b c) : Fr M a c := fun i x hi e => k i x hi (h i x hi e)
theorem Fr.mono {M N : List Nat} {a b : PH} (h : Fr M a b) (k : ∀ i ∈ M, i ∈ N) : Fr N a b := fun i x hi e => h i x (fun q => hi (k i q)) e
theorem Fr.nil {N : List Nat} {a b : PH} (h : Fr [] a b) : Fr N a b := h.mono fun _ q => (List.not_mem_nil q).elim
theorem fr_app {M : List Nat} (π ext : PH) : Fr M π (π ++ ext) := fun i c _ e => by
  rw [List.getElem?_append_left (List.getElem?_eq_some_iff.mp e).1]; exact e
theorem fr_set {π : PH} {n : Nat} {c : PO} : Fr [n] π (π.set n c) := fun i x hi e => by
  rw [List.getElem?_set_ne (fun q => hi (by rw [q]; exact List.mem_singleton.mpr rfl))]; exact e
theorem at_len {π : PH} {c : PO} : (π ++ [c])[π.length]? = some c := by rw [List.getElem?_append_right (Nat.le_refl _)]; simp
theorem at_set {π : PH} {n : Nat} {c c' : PO} (h : π[n]? = some c) : (π.set n c')[n]? = some c' := List.getElem?_set_self (List.getElem?_eq_some_iff.mp h).1
theorem lt_of_at {π : PH} {n : Nat} {c : PO} (h : π[n]? = some c) : n < π.length := (List.getElem?_eq_some_iff.mp h).1

/-! loops -/
theorem iRng_ok {aa : Av} {ρ : RO} {π π1 : PH} {j : Int} (h : aa ρ π = .ok [.int j] π1) (hs : smallI j = true) : iRng aa ρ π = .ok (srcRng 0 j.toNat) π1 := by
  unfold iRng; rw [h, R.bind_ok]; exact if_pos hs
theorem smallI_of {j : Int} (h1 : -1000000 ≤ j) (h2 : j ≤ 1000000) : smallI j = true := by
  unfold smallI
  simp only [Bool.and_eq_true, decide_eq_true_eq]
  omega
theorem bInt_tt {π : PH} : bInt [.bl true] π = .ok (.int 1) π := rfl
theorem bInt_ff {π : PH} : bInt [.bl false] π = .ok (.int 0) π := rfl
theorem ex_lc {vs : List Nat} {iv : Iv} {tv : Tv} {tc : RO → PH → R Bool} {te : Ev} {ρ ρ' : RO} {π π1 : PH} {src : Src} {r : R D} (h : iv ρ π = .ok src π1) (hw : wipeD ρ vs = ρ') (k : lcL src tv tc te ρ' π1.length FU 0 (π1 ++ [.lst []]) = r) : eLc vs iv tv tc te ρ π = r := by
  unfold eLc; rw [h, R.bind_ok, hw]; exact k
theorem ex_for {iv : Iv} {tv : Tv} {body : Sv} {ρ : RO} {π π1 : PH} {src : Src} {r : RS} (h : iv ρ π = .ok src π1) (k : forL src tv body FU 0 ρ π1 = r) : sFor iv tv body ρ π = r := by
  unfold sFor; rw [h, R.then_ok]; exact k
theorem lc_run {src : Src} {tv : Tv} {tc : RO → PH → R Bool} {te : Ev} {ρ : RO} {n N : Nat} (I : Nat → List D → PH → Prop)
    (hstop : ∀ acc π, I N acc π → src N π = .stop)
    (hstep : ∀ i acc π, i < N → I i acc π → ∃ d ρ' x π', src i π = .item d ∧ tv d ρ = some ρ' ∧ tc ρ' π = .ok true π ∧ te ρ' π = .ok x π' ∧ π'[n]? = some (.lst acc) ∧ acc.length ≤ LEN ∧ I (i + 1) (acc ++ [x]) (π'.set n (.lst (acc ++ [x])))) :
    ∀ (f i : Nat) (acc : List D) (π : PH), I i acc π → i ≤ N → N - i < f → ∃ acc' π', lcL src tv tc te ρ n f i π = .ok (.ref n) π' ∧ I N acc' π'
  | 0, _, _, _, _, _, h => by omega
  | f + 1, i, acc, π, hi, hle, h => by
    by_cases e : i = N
    · subst e
      exact ⟨acc, π, by unfold lcL; rw [hstop _ _ hi], hi⟩
    · obtain ⟨d, ρ', x, π', e1, e2, e3, e4, e5, e6, e7⟩ := hstep i acc π (by omega) hi
      obtain ⟨acc', π'', q, q2⟩ := lc_run I hstop hstep f (i + 1) (acc ++ [x]) _ e7 (by omega) (by omega)
      refine ⟨acc', π'', ?_, q2⟩
      unfold lcL
      simp only [e1, e2, e3, e4, e5, if_pos e6]
      exact q
theorem for_run {src : Src} {tv : Tv} {body : Sv} {N : Nat} (I : Nat → RO → PH → Prop)
    (hstop : ∀ ρ π, I N ρ π → src N π = .stop)
    (hstep : ∀ i ρ π, i < N → I i ρ π → ∃ d ρ1 ρ2 π2, src i π = .item d ∧ tv d ρ = some ρ1 ∧ body ρ1 π = .nx ρ2 π2 ∧ I (i + 1) ρ2 π2) :
    ∀ (f i : Nat) (ρ : RO) (π : PH), I i ρ π → i ≤ N → N - i < f → ∃ ρ' π', forL src tv body f i ρ π = .nx ρ' π' ∧ I N ρ' π'
  | 0, _, _, _, _, _, h => by omega
  | f + 1, i, ρ, π, hi, hle, h => by
    by_cases e : i = N
    · subst e
      exact ⟨ρ, π, by unfold forL; rw [hstop _ _ hi], hi⟩
    · obtain ⟨d, ρ1, ρ2, π2, e1, e2, e3, e7⟩ := hstep i ρ π (by omega) hi
      obtain ⟨ρ', π'', q, q2⟩ := for_run I hstop hstep f (i + 1) ρ2 π2 e7 (by omega) (by omega)
      refine ⟨ρ', π'', ?_, q2⟩
      unfold forL
      simp only [e1, e2, e3]
      exact q
theorem FU_big {n : Nat} (h : n ≤ 2 ^ 64) : n < FU := Nat.lt_of_le_of_lt h (by unfold FU; exact Nat.pow_lt_pow_right (by decide) (by decide))
theorem src_rng_lt {lo : Int} {n i : Nat} {π : PH} (h : i < n) : srcRng lo n i π = .item (.int (lo + i)) := by unfold srcRng; exact if_pos h
theorem src_rng_stop {lo : Int} {n : Nat} {π : PH} : srcRng lo n n π = .stop := by unfold srcRng; exact if_neg (Nat.lt_irrefl n)

/-! values alike: no cell of M is reached -/
inductive Sm (π : PH) (M : List Nat) : Nat → D → D → Prop where
  | int (k : Nat) (i : Int) : Sm π M (k + 1) (.int i) (.int i)
  | bl (k : Nat) (b : Bool) : Sm π M (k + 1) (.bl b) (.bl b)
  | non (k : Nat) : Sm π M (k + 1) .non .non
  | str (k : Nat) (s : Str) (h : PyData.strOk s = true) : Sm π M (k + 1) (.str s) (.str s)
  | tup (k : Nat) (xs ys : List D) (hl : xs.length = ys.length) (hs : ys.length ≤ LEN) (h : ∀ (i : Nat) (x y : D), xs[i]? = some x → ys[i]? = some y → Sm π M k x y) : Sm π M (k + 1) (.tup xs) (.tup ys)
  | lst (k n m : Nat) (xs ys : List D) (hn : π[n]? = some (.lst xs)) (hm : π[m]? = some (.lst ys)) (nn : n ∉ M) (nm : m ∉ M) (hl : xs.length = ys.length) (hs : ys.length ≤ LEN) (h : ∀ (i : Nat) (x y : D), xs[i]? = some x → ys[i]? = some y → Sm π M k x y) : Sm π M (k + 1) (.ref n) (.ref m)
theorem Sm.keep {π π' : PH} {M : List Nat} (fr : Fr M π π') : ∀ {k : Nat} {x y : D}, Sm π M k x y → Sm π' M k x y := by
  intro k x y h
  induction h with
  | int k i => exact .int k i
  | bl k i => exact .bl k i
  | non k => exact .non k
  | str k s h => exact .str k s h
  | tup k xs ys hl hs h ih => exact .tup k xs ys hl hs ih
  | lst k n m xs ys hn hm nn nm hl hs h ih => exact .lst k n m xs ys (fr n _ nn hn) (fr m _ nm hm) nn nm hl hs ih
/-- a new cell may be written too -/
theorem Sm.more {π : PH} {M : List Nat} {g : Nat} (hg : π.length ≤ g) : ∀ {k : Nat} {x y : D}, Sm π M k x y → Sm π (g :: M) k x y := by
  intro k x y h
  induction h with
  | int k i => exact .int k i
  | bl k i => exact .bl k i
  | non k => exact .non k
  | str k s h => exact .str k s h
  | tup k xs ys hl hs h ih => exact .tup k xs ys hl hs ih
  | lst k n m xs ys hn hm nn nm hl hs h ih =>
    have := lt_of_at hn
    have := lt_of_at hm
    exact .lst k n m xs ys hn hm (by rw [List.mem_cons]; rintro (q | q); omega; exact nn q) (by rw [List.mem_cons]; rintro (q | q); omega; exact nm q) hl hs ih
theorem Sm.less {π : PH} {M N : List Nat} (hg : ∀ i ∈ N, i ∈ M) : ∀ {k : Nat} {x y : D}, Sm π M k x y → Sm π N k x y := by
  intro k x y h
  induction h with
  | int k i => exact .int k i
  | bl k i => exact .bl k i
  | non k => exact .non k
  | str k s h => exact .str k s h
  | tup k xs ys hl hs h ih => exact .tup k xs ys hl hs ih
  | lst k n m xs ys hn hm nn nm hl hs h ih => exact .lst k n m xs ys hn hm (fun q => nn (hg _ q)) (fun q => nm (hg _ q)) hl hs ih
theorem Sm.up {π : PH} {M : List Nat} : ∀ {k : Nat} {x y : D}, Sm π M k x y → Sm π M (k + 1) x y := by
  intro k x y h
  induction h with
  | int k i => exact .int _ i
  | bl k i => exact .bl _ i
  | non k => exact .non _
  | str k s h => exact .str _ s h
  | tup k xs ys hl hs h ih => exact .tup _ xs ys hl hs ih
  | lst k n m xs ys hn hm nn nm hl hs h ih => exact .lst _ n m xs ys hn hm nn nm hl hs ih
theorem Sm.to {π : PH} {M : List Nat} {j k : Nat} {x y : D} (h : Sm π M k x y) (hk : k ≤ j) : Sm π M j x y := by
  obtain ⟨e, rfl⟩ := Nat.exists_eq_add_of_le hk
  induction e with
  | zero => exact h
  | succ e ih => exact (ih (by omega)).up
/-- a tuple of two numbers -/
theorem sm_pair {π : PH} {M : List Nat} {a b : Int} : Sm π M 2 (.tup [.int a, .int b]) (.tup [.int a, .int b]) := by
  refine .tup 1 _ _ rfl (show 2 ≤ LEN by decide) fun i x y e1 e2 => ?_
  rw [e1] at e2; cases e2
  match i, e1 with
  | 0, e1 => cases e1; exact .int 0 _
  | 1, e1 => cases e1; exact .int 0 _
  | i + 2, e1 => simp at e1
def Sms (π : PH) (M : List Nat) (k : Nat) : List D → List D → Prop
  | [], [] => True
  | x :: xs, y :: ys => Sm π M k x y ∧ Sms π M k xs ys
  | _, _ => False
theorem Sms.length {π : PH} {M : List Nat} {k : Nat} : ∀ {xs ys : List D}, Sms π M k xs ys → xs.length = ys.length
  | [], [], _ => rfl
  | _ :: xs, _ :: ys, h => by rw [List.length_cons, List.length_cons, Sms.length h.2]
  | [], _ :: _, h => h.elim
  | _ :: _, [], h => h.elim
theorem Sms.get {π : PH} {M : List Nat} {k : Nat} : ∀ {xs ys : List D}, Sms π M k xs ys → ∀ (i : Nat) (x y : D), xs[i]? = some x → ys[i]? = some y → Sm π M k x y
  | [], [], _, i, x, y, e, _ => by simp at e
  | _ :: xs, _ :: ys, h, 0, x, y, e1, e2 => by cases e1; cases e2; exact h.1
  | _ :: xs, _ :: ys, h, i + 1, x, y, e1, e2 => Sms.get h.2 i x y (by simpa using e1) (by simpa using e2)
  | [], _ :: _, h, _, _, _, _, _ => h.elim
  | _ :: _, [], h, _, _, _, _, _ => h.elim
theorem Sms.imp {π π' : PH} {M M' : List Nat} {k : Nat} (hf : ∀ x y, Sm π M k x y → Sm π' M' k x y) : ∀ {xs ys : List D}, Sms π M k xs ys → Sms π' M' k xs ys
  | [], [], _ => trivial
  | _ :: xs, _ :: ys, h => ⟨hf _ _ h.1, Sms.imp hf h.2⟩
  | [], _ :: _, h => h.elim
  | _ :: _, [], h => h.elim
theorem Sms.app {π : PH} {M : List Nat} {k : Nat} {us vs : List D} (h2 : Sms π M k us vs) : ∀ {xs ys : List D}, Sms π M k xs ys → Sms π M k (xs ++ us) (ys ++ vs)
  | [], [], _ => h2
  | _ :: xs, _ :: ys, h => ⟨h.1, Sms.app h2 h.2⟩
  | [], _ :: _, h => h.elim
  | _ :: _, [], h => h.elim
end Lb
set_option Elab.async false
set_option linter.all false
set_option maxRecDepth 100000
set_option maxHeartbeats 4000000
/-! the helpers that most laws share -/
namespace Lb
open PySem
def kLow : Sv :=
    (sSeq (sPar 2 3 (eCall bAbs (aCons (eVar 0) aNil)) (eCall bAbs (aCons (eVar 1) aNil)))
    (sSeq (sWhile (tstB (eBin opGt (eVar 3) (eC (.int 0)))) (sPar 2 3 (eVar 3) (eBin opMod (eCall bInt (aCons (eVar 2) aNil)) (eVar 3))))
    (sSeq (sSet 4 (eIf (tstB (eBin opLt (eVar 1) (eC (.int 0)))) (eUn opNeg (eC (.int 1))) (eC (.int 1))))
    (sRet (eTup (aCons (eBin opDiv (eBin opMul (eVar 4) (eVar 0)) (eVar 2)) (aCons (eBin opDiv (eBin opMul (eVar 4) (eVar 1)) (eVar 2)) aNil)))))))
def hLow : ON := runB 2 5 kLow
def kTake : Sv :=
    (sSeq (sIf (tstB (eBin opGt (eBin opIx (eVar 0) (eC (.int 0))) (eC (.int 0)))) (sSeq (sSet 2 (eBin opMod (eCall bInt (aCons (eBin opIx (eVar 0) (eC (.int 0))) aNil)) (eVar 1)))
    (sSeq (sStore (eVar 0) (eC (.int 0)) (eBin opDiv (eBin opIx (eVar 0) (eC (.int 0))) (eVar 1)))
    (sRet (eVar 2)))) sNil)
    (sSeq (sStore (eVar 0) (eC (.int 2)) (eBin opAdd (eBin opIx (eVar 0) (eC (.int 2))) (eC (.int 1))))
    (sSeq (sSet 3 (eBin opMod (eCall bInt (aCons (eBin opMul (eBin opAdd (eBin opIx (eVar 0) (eC (.int 1))) (eBin opMul (eC (.int 48271)) (eBin opIx (eVar 0) (eC (.int 2))))) (eBin opAdd (eC (.int 39373)) (eBin opIx (eVar 0) (eC (.int 2))))) aNil)) (eC (.int 2147483647))))
    (sSeq (sSet 4 (eBin opAdd (eBin opMod (eCall bInt (aCons (eVar 3) aNil)) (eC (.int 40009))) (eC (.int 7))))
    (sSeq (sSet 5 (eBin opMod (eCall bInt (aCons (eBin opMul (eBin opAdd (eBin opAdd (eVar 3) (eBin opIx (eVar 0) (eC (.int 2)))) (eBin opDiv (eBin opIx (eVar 0) (eC (.int 1))) (eC (.int 1000003)))) (eVar 4)) aNil)) (eC (.int 2147483629))))
    (sRet (eBin opMod (eCall bInt (aCons (eBin opDiv (eBin opMod (eCall bInt (aCons (eBin opAdd (eBin opMul (eVar 5) (eC (.int 48271))) (eVar 3)) aNil)) (eC (.int 2147483587))) (eC (.int 64))) aNil)) (eVar 1))))))))
def hTake : ON := runB 2 6 kTake
def kOf : Sv :=
    (sRet (eBin opIx (eVar 1) (eCall hTake (aCons (eVar 0) (aCons (eCall bLen (aCons (eVar 1) aNil)) aNil)))))
def hOf : ON := runB 2 2 kOf
def kSame (r : ON) : Sv :=
    (sSeq (sIf (tst (eIsi [.list, .tuple] (eVar 1))) (sSeq (sIf (tOr2 (tstB (eBin opNe (eIsi [.list] (eVar 0)) (eIsi [.list] (eVar 1)))) (tstB (eBin opNe (eIsi [.tuple] (eVar 0)) (eIsi [.tuple] (eVar 1))))) (sRet (eC (.bl false))) sNil)
    (sRet (eAnd (eBin opEq (eCall bLen (aCons (eVar 0) aNil)) (eCall bLen (aCons (eVar 1) aNil))) (eCall bAll (aCons (eLc [2, 3] (iZip (aCons (eVar 0) (aCons (eVar 1) aNil))) (vTup 2 (vCons (vName 2) (vCons (vName 3) vNil))) noTest (eCall r (aCons (eVar 2) (aCons (eVar 3) aNil)))) aNil))))) sNil)
    (sSeq (sIf (tOr2 (tstB (eBin opIsN (eVar 1) (eC .non))) (tst (eIsi [.bool, .str] (eVar 1)))) (sRet (eAnd (eBin opEq (eVar 0) (eVar 1)) (eAnd (eBin opEq (eIsi [.bool] (eVar 0)) (eIsi [.bool] (eVar 1))) (eBin opEq (eBin opIsN (eVar 0) (eC .non)) (eBin opIsN (eVar 1) (eC .non)))))) sNil)
    (sRet (eAnd (eIsi [.int] (eVar 0)) (eAnd (eNot (eIsi [.bool] (eVar 0))) (eBin opEq (eVar 0) (eVar 1)))))))
def hSame : Nat → ON
  | 0 => fun _ _ => .bad
  | k + 1 => runB 2 4 (kSame (hSame k))
def kCells : Sv :=
    (sSeq (sSet 2 (eOr (eCall bList (aCons (eSl (eVar 0) pNone (pSome (eVar 1))) aNil)) (eLst (aCons (eC (.int 0)) aNil))))
    (sSeq (sFor (iEnum (aCons (eSl (eVar 0) (pSome (eVar 1)) (pSome (eC (.int 63)))) aNil)) (vTup 2 (vCons (vName 3) (vCons (vName 4) vNil))) (sSeq (sSet 5 (eBin opMod (eCall bInt (aCons (eVar 3) aNil)) (eVar 1)))
    (sStore (eVar 2) (eVar 5) (eBin opAdd (eBin opIx (eVar 2) (eVar 5)) (eBin opMul (eVar 4) (eBin opAdd (eVar 3) (eC (.int 2))))))))
    (sRet (eVar 2))))
def hCells : ON := runB 2 6 kCells
def kBox : Sv :=
    (sSeq (sSet 2 (eIf (tstB (eBin opLt (eVar 1) (eCall bLen (aCons (eVar 0) aNil)))) (eBin opIx (eVar 0) (eVar 1)) (eC (.int 0))))
    (sRet (eLst (aCons (eBin opMul (eCall bAbs (aCons (eVar 2) aNil)) (eCall bInt (aCons (eBin opGe (eCall bAbs (aCons (eVar 2) aNil)) (eBin opPow (eC (.int 10)) (eC (.int 18)))) aNil))) (aCons (eBin opAdd (eBin opAdd (eBin opMod (eCall bInt (aCons (eVar 2) aNil)) (eC (.int 2305843009213693951))) (eBin opMul (eC (.int 39373)) (eVar 1))) (eC (.int 94107))) (aCons (eC (.int 0)) aNil))))))
def hBox : ON := runB 2 3 kBox

/-! draws -/
def Urn (π : PH) (u n : Nat) : Prop := ∃ a b c : Int, π[u]? = some (.lst [.int a, .int b, .int c]) ∧ 0 ≤ c ∧ c ≤ n
theorem stIx_ok {π : PH} {n j : Nat} {xs : List D} {k : Int} {v : D} (h : π[n]? = some (.lst xs)) (e : L2.ixN xs.length k = some j) : stIx (.ref n) (.int k) v π = some (π.set n (.lst (xs.set j v))) := by
  unfold stIx; simp only [h, e]
theorem small_nn {i : Int} {k : Nat} (h0 : 0 ≤ i) (h1 : i < 2 ^ 62) : -(2 ^ 64) < i ∧ i < 2 ^ 64 := by omega
theorem take_ok {π : PH} {u n : Nat} {low : Int} (h : Urn π u n) (hn : n < 2 ^ 40) (hl : 0 < low) (hb : Bd low 60) : ∃ t π', hTake [.ref u, .int low] π = .ok (.int t) π' ∧ 0 ≤ t ∧ t < low ∧ Urn π' u (n + 1) ∧ Fr [u] π π' ∧ π'.length = π.length := by
  obtain ⟨a, b, c, hu, c0, c1⟩ := h
  have hd : divOk low = true := Bd.divOk hl hb (by decide)
  by_cases ha : 0 < a
  · refine ⟨a % low, π.set u (.lst [.int (a / low), .int b, .int c]), ?_, Int.emod_nonneg _ (Int.ne_of_gt hl), Int.emod_lt_of_pos _ hl, ⟨_, b, c, at_set hu, c0, by omega⟩, fr_set, List.length_set⟩
    unfold hTake kTake
    simp only [runB, sSeq, sSet, sRet, sIf, sNil, sExpr, sAsg, sRaise0, sPar, sPar3, sStore, eVar, eC, eBin, eUn, eCall, eTup, eIf, eAnd, eOr, eNot, aNil, aCons, tst, tstB, tNot1, tAnd2, tOr2, trD, truV, blD, R.bind_ok, R.bind_bad, R.bind_exc, R.then_ok, R.then_bad, R.then_exc, opAdd_int, opSub_int, opNeg_int, cmpI_int, opIx_t0, opIx_t1, bGcd_int, bAbs_nat, bInt_int, bInt_tt, bInt_ff, bLen_tup, decide_true, decide_false, Bool.not_true, Bool.not_false, opEq_int, opNe_int, opEq_bl, opNe_bl, List.length_cons, List.length_nil, List.map_cons, List.map_nil, List.replicate, List.cons_append, List.nil_append, List.getElem?_cons_zero, List.getElem?_cons_succ, List.set_cons_zero, List.set_cons_succ, Nat.reduceAdd, Nat.reduceSub, Nat.reduceLeDiff, if_true, if_false, ite_true, ite_false, le_LEN, opIx_r0 hu, ha, opMod_ok hl, opDiv_ok hd, stIx_ok hu (show L2.ixN 3 0 = some 0 by decide)]
  · have e1 : ((π.set u (.lst [.int a, .int b, .int (c + 1)])))[u]? = some (.lst [.int a, .int b, .int (c + 1)]) := at_set hu
    have m1 : mulOk 48271 (c + 1) = true := mulOk_left (by decide)
    have m2 : mulOk (b + 48271 * (c + 1)) (39373 + (c + 1)) = true := mulOk_right (by omega)
    generalize q1 : (b + 48271 * (c + 1)) * (39373 + (c + 1)) = z1
    generalize q2 : z1 % 2147483647 = once
    have q2' := Int.emod_nonneg z1 (show (2147483647 : Int) ≠ 0 by decide)
    have q2'' := Int.emod_lt_of_pos z1 (show (0 : Int) < 2147483647 by decide)
    rw [q2] at q2' q2''
    generalize q3 : once % 40009 + 7 = far
    have q3' := Int.emod_nonneg once (show (40009 : Int) ≠ 0 by decide)
    have q3'' := Int.emod_lt_of_pos once (show (0 : Int) < 40009 by decide)
    have m3 : mulOk (once + (c + 1) + b / 1000003) far = true := mulOk_right (by omega)
    generalize q4 : ((once + (c + 1) + b / 1000003) * far) % 2147483629 = twice
    have m4 : mulOk twice 48271 = true := mulOk_right (by decide)
    have d1 : divOk 1000003 = true := Bd.divOk (b := 60) (by decide) (by unfold Bd; decide) (by decide)
    have d2 : divOk 64 = true := Bd.divOk (b := 60) (by decide) (by unfold Bd; decide) (by decide)
    refine ⟨((twice * 48271 + once) % 2147483587 / 64) % low, π.set u (.lst [.int a, .int b, .int (c + 1)]), ?_, Int.emod_nonneg _ (Int.ne_of_gt hl), Int.emod_lt_of_pos _ hl, ⟨_, b, c + 1, at_set hu, by omega, by omega⟩, fr_set, List.length_set⟩
    unfold hTake kTake
    simp only [runB, sSeq, sSet, sRet, sIf, sNil, sExpr, sAsg, sRaise0, sPar, sPar3, sStore, eVar, eC, eBin, eUn, eCall, eTup, eIf, eAnd, eOr, eNot, aNil, aCons, tst, tstB, tNot1, tAnd2, tOr2, trD, truV, blD, R.bind_ok, R.bind_bad, R.bind_exc, R.then_ok, R.then_bad, R.then_exc, opAdd_int, opSub_int, opNeg_int, cmpI_int, opIx_t0, opIx_t1, bGcd_int, bAbs_nat, bInt_int, bInt_tt, bInt_ff, bLen_tup, decide_true, decide_false, Bool.not_true, Bool.not_false, opEq_int, opNe_int, opEq_bl, opNe_bl, List.length_cons, List.length_nil, List.map_cons, List.map_nil, List.replicate, List.cons_append, List.nil_append, List.getElem?_cons_zero, List.getElem?_cons_succ, List.set_cons_zero, List.set_cons_succ, Nat.reduceAdd, Nat.reduceSub, Nat.reduceLeDiff, if_true, if_false, ite_true, ite_false, le_LEN, opIx_r0 hu, opIx_r2 hu, ha, stIx_ok hu (show L2.ixN 3 2 = some 2 by decide), opIx_r0 e1, opIx_r1 e1, opIx_r2 e1, opMul_ok m1, opMul_ok m2, opMod_ok (show (0 : Int) < 2147483647 by decide), q1, q2, opMod_ok (show (0 : Int) < 40009 by decide), q3, opDiv_ok d1, opMul_ok m3, opMod_ok (show (0 : Int) < 2147483629 by decide), q4, opMul_ok m4, opMod_ok (show (0 : Int) < 2147483587 by decide), opDiv_ok d2, opMod_ok hl]

/-! lowest terms -/
abbrev gc (t b : Int) : Int := ((t.natAbs.gcd b.natAbs : Nat) : Int)
theorem sWhile_eq {tc : RO → PH → R Bool} {body : Sv} {ρ : RO} {π : PH} : sWhile tc body ρ π = whL tc body FU ρ π := rfl
theorem mod_half {m r : Nat} (h0 : 0 < r) (h1 : r ≤ m) : 2 * (m % r) < m + 1 ∧ m % r < r := by
  have a := Nat.mod_lt m h0
  have b := Nat.mod_add_div m r
  have c : 1 ≤ m / r := (Nat.one_le_div_iff h0).mpr h1
  have d : r * 1 ≤ r * (m / r) := Nat.mul_le_mul_left r c
  omega
theorem low_loop {x0 x1 : Option D} {π : PH} : ∀ (k f n m : Nat), m < 2 ^ k → 2 * k + 1 ≤ f →
    whL (tstB (eBin opGt (eVar 3) (eC (.int 0)))) (sPar 2 3 (eVar 3) (eBin opMod (eCall bInt (aCons (eVar 2) aNil)) (eVar 3))) f [x0, x1, some (.int n), some (.int m), none] π
      = .nx [x0, x1, some (.int (Nat.gcd n m : Nat)), some (.int 0), none] π := by
  have step : ∀ (f n m : Nat), 0 < m → whL (tstB (eBin opGt (eVar 3) (eC (.int 0)))) (sPar 2 3 (eVar 3) (eBin opMod (eCall bInt (aCons (eVar 2) aNil)) (eVar 3))) (f + 1) [x0, x1, some (.int n), some (.int m), none] π
      = whL (tstB (eBin opGt (eVar 3) (eC (.int 0)))) (sPar 2 3 (eVar 3) (eBin opMod (eCall bInt (aCons (eVar 2) aNil)) (eVar 3))) f [x0, x1, some (.int m), some (.int (n % m : Nat)), none] π := by
    intro f n m hm
    have hm' : (0 : Int) < (m : Int) := by omega
    rw [whL]
    simp only [runB, sSeq, sSet, sRet, sIf, sNil, sExpr, sAsg, sRaise0, sPar, sPar3, sStore, eVar, eC, eBin, eUn, eCall, eTup, eIf, eAnd, eOr, eNot, aNil, aCons, tst, tstB, tNot1, tAnd2, tOr2, trD, truV, blD, R.bind_ok, R.bind_bad, R.bind_exc, R.then_ok, R.then_bad, R.then_exc, opAdd_int, opSub_int, opNeg_int, cmpI_int, opIx_t0, opIx_t1, bGcd_int, bAbs_nat, bInt_int, bInt_tt, bInt_ff, bLen_tup, decide_true, decide_false, Bool.not_true, Bool.not_false, opEq_int, opNe_int, opEq_bl, opNe_bl, List.length_cons, List.length_nil, List.map_cons, List.map_nil, List.replicate, List.cons_append, List.nil_append, List.getElem?_cons_zero, List.getElem?_cons_succ, List.set_cons_zero, List.set_cons_succ, Nat.reduceAdd, Nat.reduceSub, Nat.reduceLeDiff, if_true, if_false, ite_true, ite_false, le_LEN, hm', opMod_ok hm', Int.natCast_emod]
  have stop : ∀ (f n : Nat), whL (tstB (eBin opGt (eVar 3) (eC (.int 0)))) (sPar 2 3 (eVar 3) (eBin opMod (eCall bInt (aCons (eVar 2) aNil)) (eVar 3))) (f + 1) [x0, x1, some (.int n), some (.int (0 : Nat)), none] π
      = .nx [x0, x1, some (.int n), some (.int 0), none] π := by
    intro f n
    rw [whL]
    simp only [runB, sSeq, sSet, sRet, sIf, sNil, sExpr, sAsg, sRaise0, sPar, sPar3, sStore, eVar, eC, eBin, eUn, eCall, eTup, eIf, eAnd, eOr, eNot, aNil, aCons, tst, tstB, tNot1, tAnd2, tOr2, trD, truV, blD, R.bind_ok, R.bind_bad, R.bind_exc, R.then_ok, R.then_bad, R.then_exc, opAdd_int, opSub_int, opNeg_int, cmpI_int, opIx_t0, opIx_t1, bGcd_int, bAbs_nat, bInt_int, bInt_tt, bInt_ff, bLen_tup, decide_true, decide_false, Bool.not_true, Bool.not_false, opEq_int, opNe_int, opEq_bl, opNe_bl, List.length_cons, List.length_nil, List.map_cons, List.map_nil, List.replicate, List.cons_append, List.nil_append, List.getElem?_cons_zero, List.getElem?_cons_succ, List.set_cons_zero, List.set_cons_succ, Nat.reduceAdd, Nat.reduceSub, Nat.reduceLeDiff, if_true, if_false, ite_true, ite_false, le_LEN, Int.natCast_zero, Int.lt_irrefl]
  intro k
  induction k with
  | zero =>
    intro f n m h hf
    have : m = 0 := by omega
    subst this
    match f, hf with
    | f + 1, _ => rw [stop, Nat.gcd_zero_right]
  | succ k ih =>
    intro f n m h hf
    by_cases hm : m = 0
    · subst hm
      match f, hf with
      | f + 1, _ => rw [stop, Nat.gcd_zero_right]
    · match f, hf with
      | f + 2, hf =>
        rw [step (f + 1) n m (by omega)]
        have e1 : Nat.gcd n m = Nat.gcd m (n % m) := by rw [Nat.gcd_comm n m, Nat.gcd_rec, Nat.gcd_comm]
        by_cases hr : n % m = 0
        · rw [hr, stop, e1, hr, Nat.gcd_zero_right]
        · have a := mod_half (m := m) (r := n % m) (by omega) (Nat.le_of_lt (Nat.mod_lt n (by omega)))
          have b := Nat.mod_lt n (show 0 < m by omega)
          rw [step f m (n % m) (by omega)]
          rw [ih f (n % m) (m % (n % m)) (by rw [Nat.pow_succ] at h; omega) (by omega)]
          have e2 : Nat.gcd m (n % m) = Nat.gcd (n % m) (m % (n % m)) := by rw [Nat.gcd_comm m (n % m), Nat.gcd_rec, Nat.gcd_comm]
          rw [e1, e2]
def fr2 (x : Int × Int) : D := .tup [.int x.1, .int x.2]
/-- lowest terms, the bottom above 0 -/
def lwS (t b : Int) : Int × Int := if b < 0 then lw (-t) (-b) else lw t b
theorem low_ok {t b : Int} {π : PH} (hb : b ≠ 0) (h : Bd b 8000) : hLow [.int t, .int b] π = .ok (fr2 (lwS t b)) π := by
  have hd : divOk (gc t b) = true := Bd.divOk (gcd_posR hb) (bd_gcd hb h) (by decide)
  have hl := low_loop (x0 := some (.int t)) (x1 := some (.int b)) (π := π) 8000 FU t.natAbs b.natAbs h (by unfold FU; exact Nat.le_of_lt (Nat.lt_of_lt_of_le (show 2 * 8000 + 1 < 2 ^ 20 by decide) (Nat.pow_le_pow_right (by decide) (by decide))))
  unfold hLow kLow
  by_cases h1 : b < 0
  · have m1 : mulOk (-1) t = true := mulOk_left (by decide)
    have m2 : mulOk (-1) b = true := mulOk_left (by decide)
    simp only [runB, sSeq, sSet, sRet, sIf, sNil, sExpr, sAsg, sRaise0, sPar, sPar3, sStore, eVar, eC, eBin, eUn, eCall, eTup, eIf, eAnd, eOr, eNot, aNil, aCons, tst, tstB, tNot1, tAnd2, tOr2, trD, truV, blD, R.bind_ok, R.bind_bad, R.bind_exc, R.then_ok, R.then_bad, R.then_exc, opAdd_int, opSub_int, opNeg_int, cmpI_int, opIx_t0, opIx_t1, bGcd_int, bAbs_nat, bInt_int, bInt_tt, bInt_ff, bLen_tup, decide_true, decide_false, Bool.not_true, Bool.not_false, opEq_int, opNe_int, opEq_bl, opNe_bl, List.length_cons, List.length_nil, List.map_cons, List.map_nil, List.replicate, List.cons_append, List.nil_append, List.getElem?_cons_zero, List.getElem?_cons_succ, List.set_cons_zero, List.set_cons_succ, Nat.reduceAdd, Nat.reduceSub, Nat.reduceLeDiff, if_true, if_false, ite_true, ite_false, le_LEN, sWhile_eq, hl, h1, opMul_ok m1, opMul_ok m2, opDiv_ok hd]
    unfold lwS
    rw [if_pos h1]
    unfold lw fr2
    simp only [Int.neg_mul, Int.one_mul, Int.gcd_eq_natAbs_gcd_natAbs, Int.natAbs_neg]
  · have m1 : mulOk 1 t = true := mulOk_left (by decide)
    have m2 : mulOk 1 b = true := mulOk_left (by decide)
    simp only [runB, sSeq, sSet, sRet, sIf, sNil, sExpr, sAsg, sRaise0, sPar, sPar3, sStore, eVar, eC, eBin, eUn, eCall, eTup, eIf, eAnd, eOr, eNot, aNil, aCons, tst, tstB, tNot1, tAnd2, tOr2, trD, truV, blD, R.bind_ok, R.bind_bad, R.bind_exc, R.then_ok, R.then_bad, R.then_exc, opAdd_int, opSub_int, opNeg_int, cmpI_int, opIx_t0, opIx_t1, bGcd_int, bAbs_nat, bInt_int, bInt_tt, bInt_ff, bLen_tup, decide_true, decide_false, Bool.not_true, Bool.not_false, opEq_int, opNe_int, opEq_bl, opNe_bl, List.length_cons, List.length_nil, List.map_cons, List.map_nil, List.replicate, List.cons_append, List.nil_append, List.getElem?_cons_zero, List.getElem?_cons_succ, List.set_cons_zero, List.set_cons_succ, Nat.reduceAdd, Nat.reduceSub, Nat.reduceLeDiff, if_true, if_false, ite_true, ite_false, le_LEN, sWhile_eq, hl, h1, opMul_ok m1, opMul_ok m2, opDiv_ok hd]
    unfold lwS
    rw [if_neg h1]
    unfold lw fr2
    simp only [Int.one_mul, Int.gcd_eq_natAbs_gcd_natAbs]
theorem of_ok {π : PH} {u n v : Nat} {xs : List D} (h : Urn π u n) (hn : n < 2 ^ 40) (hv : π[v]? = some (.lst xs)) (hvu : v ≠ u) (hx : 0 < xs.length) (hx2 : xs.length < 2 ^ 50) :
    ∃ x π', hOf [.ref u, .ref v] π = .ok x π' ∧ (∃ j : Nat, xs[j]? = some x) ∧ Urn π' u (n + 1) ∧ Fr [u] π π' ∧ π'.length = π.length := by
  have p1 : (2 ^ 50 : Int) < 2 ^ 60 := by decide
  have p0 : -(2 ^ 60 : Int) < 0 := by decide
  obtain ⟨t, π', e, t0, t1, hu, fr, hl⟩ := take_ok (low := (xs.length : Int)) h hn (by omega) (bd_of (by omega) (by omega))
  obtain ⟨j, rfl⟩ := Int.eq_ofNat_of_zero_le t0
  have hj : j < xs.length := by omega
  refine ⟨xs[j], π', ?_, ⟨j, List.getElem?_eq_getElem hj⟩, hu, fr, hl⟩
  have hv' := fr v _ (by simp; exact hvu) hv
  have ha : L2.atI xs ((j : Nat) : Int) = some xs[j] := L2.atI_nat (List.getElem?_eq_getElem hj)
  unfold hOf kOf
  simp only [runB, sSeq, sSet, sRet, sIf, sNil, sExpr, sAsg, sRaise0, sPar, sPar3, sStore, eVar, eC, eBin, eUn, eCall, eTup, eIf, eAnd, eOr, eNot, aNil, aCons, tst, tstB, tNot1, tAnd2, tOr2, trD, truV, blD, R.bind_ok, R.bind_bad, R.bind_exc, R.then_ok, R.then_bad, R.then_exc, opAdd_int, opSub_int, opNeg_int, cmpI_int, opIx_t0, opIx_t1, bGcd_int, bAbs_nat, bInt_int, bInt_tt, bInt_ff, bLen_tup, decide_true, decide_false, Bool.not_true, Bool.not_false, opEq_int, opNe_int, opEq_bl, opNe_bl, List.length_cons, List.length_nil, List.map_cons, List.map_nil, List.replicate, List.cons_append, List.nil_append, List.getElem?_cons_zero, List.getElem?_cons_succ, List.set_cons_zero, List.set_cons_succ, Nat.reduceAdd, Nat.reduceSub, Nat.reduceLeDiff, if_true, if_false, ite_true, ite_false, le_LEN, bLen_ref hv, e, opIx_ref hv' ha]
/-! alike -/
theorem opEq_non {π : PH} : opEq .non .non π = .ok (.bl true) π := rfl
theorem opEq_str {π : PH} {s : Str} (h : PyData.strOk s = true) : opEq (.str s) (.str s) π = .ok (.bl true) π := by
  unfold opEq; rw [eqv_str π s s h h]; simp
theorem bools_rep : ∀ n : Nat, bools (List.replicate n (.bl true)) = some (List.replicate n true)
  | 0 => rfl
  | n + 1 => by rw [List.replicate_succ, List.replicate_succ]; unfold bools; rw [bools_rep n]
theorem all_rep : ∀ n : Nat, (List.replicate n true).all id = true
  | 0 => rfl
  | n + 1 => by rw [List.replicate_succ, List.all_cons, all_rep n]; rfl
/-- the comprehension within: all pairs alike -/
theorem same_lc {π : PH} {r : ON} {x y : D} {xs ys : List D} (hx : items x π = some xs) (hy : items y π = some ys) (hx' : ∀ π', Fr [] π π' → items x π' = some xs) (hy' : ∀ π', Fr [] π π' → items y π' = some ys)
    (hl : xs.length = ys.length) (hs : ys.length ≤ LEN)
    (h : ∀ (i : Nat) (a b : D) (π' : PH), xs[i]? = some a → ys[i]? = some b → Fr [] π π' → ∃ π'', r [a, b] π' = .ok (.bl true) π'' ∧ Fr [] π' π'') :
    ∃ π', eCall bAll (aCons (eLc [2, 3] (iZip (aCons (eVar 0) (aCons (eVar 1) aNil))) (vTup 2 (vCons (vName 2) (vCons (vName 3) vNil))) noTest (eCall r (aCons (eVar 2) (aCons (eVar 3) aNil)))) aNil) [some x, some y, none, none] π = .ok (.bl true) π' ∧ Fr [] π π' := by
  obtain ⟨acc, π', e, ⟨e1, e2, e3⟩⟩ := lc_run (src := srcZip x y) (tv := vTup 2 (vCons (vName 2) (vCons (vName 3) vNil))) (tc := noTest) (te := eCall r (aCons (eVar 2) (aCons (eVar 3) aNil))) (ρ := [some x, some y, none, none]) (n := π.length) (N := ys.length)
    (fun i acc π' => π'[π.length]? = some (.lst acc) ∧ acc = List.replicate i (.bl true) ∧ Fr [] π π')
    (fun acc π' ⟨h1, h2, h3⟩ => by
      unfold srcZip
      simp only [hx' _ h3, hy' _ h3, List.getElem?_eq_none (Nat.le_of_eq hl), Nat.le_of_eq hl.symm, Nat.le_refl, and_self, if_true])
    (fun i acc π' hi ⟨h1, h2, h3⟩ => by
      have hi2 : i < xs.length := by omega
      obtain ⟨π'', q1, q2⟩ := h i xs[i] ys[i] π' (List.getElem?_eq_getElem hi2) (List.getElem?_eq_getElem hi) h3
      refine ⟨.tup [xs[i], ys[i]], [some x, some y, some xs[i], some ys[i]], .bl true, π'', ?_, rfl, rfl, ?_, q2 _ _ List.not_mem_nil h1, by rw [h2, List.length_replicate]; omega, at_set (q2 _ _ List.not_mem_nil h1), by rw [h2, List.replicate_succ'], ?_⟩
      · unfold srcZip
        simp only [hx' _ h3, hy' _ h3, List.getElem?_eq_getElem hi2, List.getElem?_eq_getElem hi]
      · simp only [runB, sSeq, sSet, sRet, sIf, sNil, sExpr, sAsg, sRaise0, sPar, sPar3, sStore, eVar, eC, eBin, eUn, eCall, eTup, eIf, eAnd, eOr, eNot, aNil, aCons, tst, tstB, tNot1, tAnd2, tOr2, trD, truV, blD, R.bind_ok, R.bind_bad, R.bind_exc, R.then_ok, R.then_bad, R.then_exc, opAdd_int, opSub_int, opNeg_int, cmpI_int, opIx_t0, opIx_t1, bGcd_int, bAbs_nat, bInt_int, bInt_tt, bInt_ff, bLen_tup, decide_true, decide_false, Bool.not_true, Bool.not_false, opEq_int, opNe_int, opEq_bl, opNe_bl, List.length_cons, List.length_nil, List.map_cons, List.map_nil, List.replicate, List.cons_append, List.nil_append, List.getElem?_cons_zero, List.getElem?_cons_succ, List.set_cons_zero, List.set_cons_succ, Nat.reduceAdd, Nat.reduceSub, Nat.reduceLeDiff, if_true, if_false, ite_true, ite_false, le_LEN, q1]
      · intro j c hj hc
        rw [List.getElem?_set_ne (by have := lt_of_at hc; omega)]
        exact q2 _ _ hj (h3 _ _ hj hc))
    FU 0 [] (π ++ [.lst []]) ⟨at_len, rfl, fr_app _ _⟩ (Nat.zero_le _) (FU_big (Nat.le_trans hs (by decide)))
  refine ⟨π', ?_, e3⟩
  have z : iZip (aCons (eVar 0) (aCons (eVar 1) aNil)) [some x, some y, none, none] π = .ok (srcZip x y) π := by
    unfold iZip
    simp only [runB, sSeq, sSet, sRet, sIf, sNil, sExpr, sAsg, sRaise0, sPar, sPar3, sStore, eVar, eC, eBin, eUn, eCall, eTup, eIf, eAnd, eOr, eNot, aNil, aCons, tst, tstB, tNot1, tAnd2, tOr2, trD, truV, blD, R.bind_ok, R.bind_bad, R.bind_exc, R.then_ok, R.then_bad, R.then_exc, opAdd_int, opSub_int, opNeg_int, cmpI_int, opIx_t0, opIx_t1, bGcd_int, bAbs_nat, bInt_int, bInt_tt, bInt_ff, bLen_tup, decide_true, decide_false, Bool.not_true, Bool.not_false, opEq_int, opNe_int, opEq_bl, opNe_bl, List.length_cons, List.length_nil, List.map_cons, List.map_nil, List.replicate, List.cons_append, List.nil_append, List.getElem?_cons_zero, List.getElem?_cons_succ, List.set_cons_zero, List.set_cons_succ, Nat.reduceAdd, Nat.reduceSub, Nat.reduceLeDiff, if_true, if_false, ite_true, ite_false, le_LEN, hx, hy]
  have w := ex_lc (vs := [2, 3]) z rfl e
  refine ex_call (ex_cons w ex_nil) ?_
  unfold bAll onL items
  simp only [e1, e2, bools_rep, all_rep]
theorem same_ok {M : List Nat} : ∀ {k : Nat} {x y : D} {π : PH}, Sm π M k x y → ∃ π', hSame k [x, y] π = .ok (.bl true) π' ∧ Fr [] π π'
  | 0, _, _, _, h => nomatch h
  | k + 1, x, y, π, h => by
    unfold hSame kSame
    cases h with
    | int _ i =>
      refine ⟨π, ?_, .refl⟩
      simp only [runB, sSeq, sSet, sRet, sIf, sNil, sExpr, sAsg, sRaise0, sPar, sPar3, sStore, eVar, eC, eBin, eUn, eCall, eTup, eIf, eAnd, eOr, eNot, aNil, aCons, tst, tstB, tNot1, tAnd2, tOr2, trD, truV, blD, R.bind_ok, R.bind_bad, R.bind_exc, R.then_ok, R.then_bad, R.then_exc, opAdd_int, opSub_int, opNeg_int, cmpI_int, opIx_t0, opIx_t1, bGcd_int, bAbs_nat, bInt_int, bInt_tt, bInt_ff, bLen_tup, decide_true, decide_false, Bool.not_true, Bool.not_false, opEq_int, opNe_int, opEq_bl, opNe_bl, List.length_cons, List.length_nil, List.map_cons, List.map_nil, List.replicate, List.cons_append, List.nil_append, List.getElem?_cons_zero, List.getElem?_cons_succ, List.set_cons_zero, List.set_cons_succ, Nat.reduceAdd, Nat.reduceSub, Nat.reduceLeDiff, if_true, if_false, ite_true, ite_false, le_LEN, eIsi, tyD, isAny, isTy, opIsN, isNon, reduceCtorEq, Bool.or_false, Bool.or_true, BEq.rfl]
    | bl _ b =>
      refine ⟨π, ?_, .refl⟩
      simp only [runB, sSeq, sSet, sRet, sIf, sNil, sExpr, sAsg, sRaise0, sPar, sPar3, sStore, eVar, eC, eBin, eUn, eCall, eTup, eIf, eAnd, eOr, eNot, aNil, aCons, tst, tstB, tNot1, tAnd2, tOr2, trD, truV, blD, R.bind_ok, R.bind_bad, R.bind_exc, R.then_ok, R.then_bad, R.then_exc, opAdd_int, opSub_int, opNeg_int, cmpI_int, opIx_t0, opIx_t1, bGcd_int, bAbs_nat, bInt_int, bInt_tt, bInt_ff, bLen_tup, decide_true, decide_false, Bool.not_true, Bool.not_false, opEq_int, opNe_int, opEq_bl, opNe_bl, List.length_cons, List.length_nil, List.map_cons, List.map_nil, List.replicate, List.cons_append, List.nil_append, List.getElem?_cons_zero, List.getElem?_cons_succ, List.set_cons_zero, List.set_cons_succ, Nat.reduceAdd, Nat.reduceSub, Nat.reduceLeDiff, if_true, if_false, ite_true, ite_false, le_LEN, eIsi, tyD, isAny, isTy, opIsN, isNon, reduceCtorEq, Bool.or_false, Bool.or_true, BEq.rfl]
    | non _ =>
      refine ⟨π, ?_, .refl⟩
      simp only [runB, sSeq, sSet, sRet, sIf, sNil, sExpr, sAsg, sRaise0, sPar, sPar3, sStore, eVar, eC, eBin, eUn, eCall, eTup, eIf, eAnd, eOr, eNot, aNil, aCons, tst, tstB, tNot1, tAnd2, tOr2, trD, truV, blD, R.bind_ok, R.bind_bad, R.bind_exc, R.then_ok, R.then_bad, R.then_exc, opAdd_int, opSub_int, opNeg_int, cmpI_int, opIx_t0, opIx_t1, bGcd_int, bAbs_nat, bInt_int, bInt_tt, bInt_ff, bLen_tup, decide_true, decide_false, Bool.not_true, Bool.not_false, opEq_int, opNe_int, opEq_bl, opNe_bl, List.length_cons, List.length_nil, List.map_cons, List.map_nil, List.replicate, List.cons_append, List.nil_append, List.getElem?_cons_zero, List.getElem?_cons_succ, List.set_cons_zero, List.set_cons_succ, Nat.reduceAdd, Nat.reduceSub, Nat.reduceLeDiff, if_true, if_false, ite_true, ite_false, le_LEN, eIsi, tyD, isAny, isTy, opIsN, isNon, reduceCtorEq, Bool.or_false, Bool.or_true, BEq.rfl, opEq_non]
    | str _ s hs =>
      refine ⟨π, ?_, .refl⟩
      simp only [runB, sSeq, sSet, sRet, sIf, sNil, sExpr, sAsg, sRaise0, sPar, sPar3, sStore, eVar, eC, eBin, eUn, eCall, eTup, eIf, eAnd, eOr, eNot, aNil, aCons, tst, tstB, tNot1, tAnd2, tOr2, trD, truV, blD, R.bind_ok, R.bind_bad, R.bind_exc, R.then_ok, R.then_bad, R.then_exc, opAdd_int, opSub_int, opNeg_int, cmpI_int, opIx_t0, opIx_t1, bGcd_int, bAbs_nat, bInt_int, bInt_tt, bInt_ff, bLen_tup, decide_true, decide_false, Bool.not_true, Bool.not_false, opEq_int, opNe_int, opEq_bl, opNe_bl, List.length_cons, List.length_nil, List.map_cons, List.map_nil, List.replicate, List.cons_append, List.nil_append, List.getElem?_cons_zero, List.getElem?_cons_succ, List.set_cons_zero, List.set_cons_succ, Nat.reduceAdd, Nat.reduceSub, Nat.reduceLeDiff, if_true, if_false, ite_true, ite_false, le_LEN, eIsi, tyD, isAny, isTy, opIsN, isNon, reduceCtorEq, Bool.or_false, Bool.or_true, BEq.rfl, opEq_str hs]
    | tup _ xs ys hl hs hh =>
      obtain ⟨π', e, fr⟩ := same_lc (π := π) (r := hSame k) (x := .tup xs) (y := .tup ys) rfl rfl (fun _ _ => rfl) (fun _ _ => rfl) hl hs (fun i a b π' q1 q2 fr => same_ok ((hh i a b q1 q2).keep fr.nil))
      refine ⟨π', ?_, fr⟩
      simp only [runB, sSeq, sSet, sRet, sIf, sNil, sExpr, sAsg, sRaise0, sPar, sPar3, sStore, eVar, eC, eBin, eUn, eCall, eTup, eIf, eAnd, eOr, eNot, aNil, aCons, tst, tstB, tNot1, tAnd2, tOr2, trD, truV, blD, R.bind_ok, R.bind_bad, R.bind_exc, R.then_ok, R.then_bad, R.then_exc, opAdd_int, opSub_int, opNeg_int, cmpI_int, opIx_t0, opIx_t1, bGcd_int, bAbs_nat, bInt_int, bInt_tt, bInt_ff, bLen_tup, decide_true, decide_false, Bool.not_true, Bool.not_false, opEq_int, opNe_int, opEq_bl, opNe_bl, List.length_cons, List.length_nil, List.map_cons, List.map_nil, List.replicate, List.cons_append, List.nil_append, List.getElem?_cons_zero, List.getElem?_cons_succ, List.set_cons_zero, List.set_cons_succ, Nat.reduceAdd, Nat.reduceSub, Nat.reduceLeDiff, if_true, if_false, ite_true, ite_false, le_LEN] at e
      simp only [runB, sSeq, sSet, sRet, sIf, sNil, sExpr, sAsg, sRaise0, sPar, sPar3, sStore, eVar, eC, eBin, eUn, eCall, eTup, eIf, eAnd, eOr, eNot, aNil, aCons, tst, tstB, tNot1, tAnd2, tOr2, trD, truV, blD, R.bind_ok, R.bind_bad, R.bind_exc, R.then_ok, R.then_bad, R.then_exc, opAdd_int, opSub_int, opNeg_int, cmpI_int, opIx_t0, opIx_t1, bGcd_int, bAbs_nat, bInt_int, bInt_tt, bInt_ff, bLen_tup, decide_true, decide_false, Bool.not_true, Bool.not_false, opEq_int, opNe_int, opEq_bl, opNe_bl, List.length_cons, List.length_nil, List.map_cons, List.map_nil, List.replicate, List.cons_append, List.nil_append, List.getElem?_cons_zero, List.getElem?_cons_succ, List.set_cons_zero, List.set_cons_succ, Nat.reduceAdd, Nat.reduceSub, Nat.reduceLeDiff, if_true, if_false, ite_true, ite_false, le_LEN, eIsi, tyD, isAny, isTy, opIsN, isNon, reduceCtorEq, Bool.or_false, Bool.or_true, BEq.rfl, hl, e]
    | lst _ n m xs ys hn hm nn nm hl hs hh =>
      have it : ∀ {π' : PH} {j : Nat} {zs : List D}, π'[j]? = some (.lst zs) → items (.ref j) π' = some zs := by
        intro π' j zs h; unfold items; simp only [h]
      obtain ⟨π', e, fr⟩ := same_lc (π := π) (r := hSame k) (x := .ref n) (y := .ref m) (it hn) (it hm) (fun _ fr => it (fr _ _ List.not_mem_nil hn)) (fun _ fr => it (fr _ _ List.not_mem_nil hm)) hl hs (fun i a b π' q1 q2 fr => same_ok ((hh i a b q1 q2).keep fr.nil))
      refine ⟨π', ?_, fr⟩
      simp only [runB, sSeq, sSet, sRet, sIf, sNil, sExpr, sAsg, sRaise0, sPar, sPar3, sStore, eVar, eC, eBin, eUn, eCall, eTup, eIf, eAnd, eOr, eNot, aNil, aCons, tst, tstB, tNot1, tAnd2, tOr2, trD, truV, blD, R.bind_ok, R.bind_bad, R.bind_exc, R.then_ok, R.then_bad, R.then_exc, opAdd_int, opSub_int, opNeg_int, cmpI_int, opIx_t0, opIx_t1, bGcd_int, bAbs_nat, bInt_int, bInt_tt, bInt_ff, bLen_tup, decide_true, decide_false, Bool.not_true, Bool.not_false, opEq_int, opNe_int, opEq_bl, opNe_bl, List.length_cons, List.length_nil, List.map_cons, List.map_nil, List.replicate, List.cons_append, List.nil_append, List.getElem?_cons_zero, List.getElem?_cons_succ, List.set_cons_zero, List.set_cons_succ, Nat.reduceAdd, Nat.reduceSub, Nat.reduceLeDiff, if_true, if_false, ite_true, ite_false, le_LEN] at e
      simp only [runB, sSeq, sSet, sRet, sIf, sNil, sExpr, sAsg, sRaise0, sPar, sPar3, sStore, eVar, eC, eBin, eUn, eCall, eTup, eIf, eAnd, eOr, eNot, aNil, aCons, tst, tstB, tNot1, tAnd2, tOr2, trD, truV, blD, R.bind_ok, R.bind_bad, R.bind_exc, R.then_ok, R.then_bad, R.then_exc, opAdd_int, opSub_int, opNeg_int, cmpI_int, opIx_t0, opIx_t1, bGcd_int, bAbs_nat, bInt_int, bInt_tt, bInt_ff, bLen_tup, decide_true, decide_false, Bool.not_true, Bool.not_false, opEq_int, opNe_int, opEq_bl, opNe_bl, List.length_cons, List.length_nil, List.map_cons, List.map_nil, List.replicate, List.cons_append, List.nil_append, List.getElem?_cons_zero, List.getElem?_cons_succ, List.set_cons_zero, List.set_cons_succ, Nat.reduceAdd, Nat.reduceSub, Nat.reduceLeDiff, if_true, if_false, ite_true, ite_false, le_LEN, eIsi, tyD, isAny, isTy, opIsN, isNon, reduceCtorEq, Bool.or_false, Bool.or_true, BEq.rfl, hn, hm, bLen_ref hn, bLen_ref hm, hl, e]
/-! the cells of the script -/
theorem items_lst {π : PH} {n : Nat} {xs : List D} (h : π[n]? = some (.lst xs)) : items (.ref n) π = some xs := by unfold items; simp only [h]
theorem items_scr {π : PH} {n : Nat} {xs : List D} (h : π[n]? = some (.scr xs)) : items (.ref n) π = some xs := by unfold items; simp only [h]
theorem opSl_ref {π : PH} {n : Nat} {xs : List D} {lo hi : Option Int} (h : items (.ref n) π = some xs) : opSl (.ref n) lo hi π = .ok (.ref π.length) (π ++ [.lst (cutD xs lo hi)]) := by
  unfold opSl; simp only [h]; rfl
theorem cutD_ints (ns : List Int) (lo hi : Option Int) : ∃ ms : List Int, cutD (ns.map D.int) lo hi = ms.map D.int ∧ ms = (ns.drop (HT.sIx ns.length 0 lo)).take (HT.sIx ns.length ns.length hi - HT.sIx ns.length 0 lo) := by
  refine ⟨_, ?_, rfl⟩
  unfold cutD
  rw [List.map_take, List.map_drop, List.length_map]
theorem cells_first {ns : List Int} {top s : Nat} {π : PH} {x2 x3 x4 x5 : Option D} (hs : π[s]? = some (.scr (ns.map D.int))) (ht : 0 < top) (hn : ns.length ≤ LEN) : ∃ r π3, ∃ cs : List Int,
    eOr (eCall bList (aCons (eSl (eVar 0) pNone (pSome (eVar 1))) aNil)) (eLst (aCons (eC (.int 0)) aNil)) [some (.ref s), some (.int top), x2, x3, x4, x5] π = .ok (.ref r) π3
    ∧ π3[r]? = some (.lst (cs.map D.int)) ∧ 0 < cs.length ∧ cs.length ≤ top ∧ (top < ns.length → cs.length = top) ∧ Fr [] π π3 ∧ π.length ≤ r := by
  obtain ⟨ms, hc, hm⟩ := cutD_ints ns none (some (top : Int))
  have hml : ms.length = min top ns.length := by
    rw [hm, HT.sIx_none, HT.sIx_nat, List.drop_zero, Nat.sub_zero, List.length_take]; omega
  have e1 : eSl (eVar 0) pNone (pSome (eVar 1)) [some (.ref s), some (.int top), x2, x3, x4, x5] π = .ok (.ref π.length) (π ++ [.lst (ms.map D.int)]) := by
    unfold eSl pNone pSome
    simp only [runB, sSeq, sSet, sRet, sIf, sNil, sExpr, sAsg, sRaise0, sPar, sPar3, sStore, eVar, eC, eBin, eUn, eCall, eTup, eIf, eAnd, eOr, eNot, aNil, aCons, tst, tstB, tNot1, tAnd2, tOr2, trD, truV, blD, R.bind_ok, R.bind_bad, R.bind_exc, R.then_ok, R.then_bad, R.then_exc, opAdd_int, opSub_int, opNeg_int, cmpI_int, opIx_t0, opIx_t1, bGcd_int, bAbs_nat, bInt_int, bInt_tt, bInt_ff, bLen_tup, decide_true, decide_false, Bool.not_true, Bool.not_false, opEq_int, opNe_int, opEq_bl, opNe_bl, List.length_cons, List.length_nil, List.map_cons, List.map_nil, List.replicate, List.cons_append, List.nil_append, List.getElem?_cons_zero, List.getElem?_cons_succ, List.set_cons_zero, List.set_cons_succ, Nat.reduceAdd, Nat.reduceSub, Nat.reduceLeDiff, if_true, if_false, ite_true, ite_false, le_LEN, opSl_ref (items_scr hs), hc]
  have e2 : bList [.ref π.length] (π ++ [.lst (ms.map D.int)]) = .ok (.ref (π ++ [PO.lst (ms.map D.int)]).length) (π ++ [.lst (ms.map D.int)] ++ [.lst (ms.map D.int)]) := by
    unfold bList
    simp only [items_lst at_len]
    exact if_pos (by rw [List.length_map, hml]; omega)
  have e3 := ex_call (ex_cons e1 ex_nil) e2
  by_cases h0 : ms = []
  · subst h0
    refine ⟨(π ++ [PO.lst ((([] : List Int)).map D.int)] ++ [PO.lst ((([] : List Int)).map D.int)]).length, π ++ [PO.lst ((([] : List Int)).map D.int)] ++ [PO.lst ((([] : List Int)).map D.int)] ++ [PO.lst [.int 0]], [0], ?_, at_len, by decide, ht, fun h => ?_, ((fr_app _ _).trans (fr_app _ _)).trans (fr_app _ _), ?_⟩
    · unfold eOr
      rw [e3, R.bind_ok]
      have t : truV (.ref (π ++ [PO.lst ((([] : List Int)).map D.int)]).length) (π ++ [.lst ((([] : List Int)).map D.int)] ++ [.lst ((([] : List Int)).map D.int)]) = some false := by
        unfold truV
        simp only [at_len]
        rfl
      rw [t]
      exact ex_lst (ex_cons rfl ex_nil) (show 1 ≤ LEN by decide)
    · simp at hml; omega
    · simp only [List.length_append]; omega
  · refine ⟨(π ++ [PO.lst (ms.map D.int)]).length, π ++ [PO.lst (ms.map D.int)] ++ [PO.lst (ms.map D.int)], ms, ?_, at_len, List.length_pos_iff.mpr h0, by omega, fun h => by omega, (fr_app _ _).trans (fr_app _ _), ?_⟩
    · unfold eOr
      rw [e3, R.bind_ok]
      have t : truV (.ref (π ++ [PO.lst (ms.map D.int)]).length) (π ++ [.lst (ms.map D.int)] ++ [.lst (ms.map D.int)]) = some true := by
        unfold truV
        simp only [at_len]
        cases ms with
        | nil => exact (h0 rfl).elim
        | cons a b => rfl
      rw [t]
    · simp only [List.length_append]; omega
theorem cells_ok {ns : List Int} {top s : Nat} {π : PH} (hs : π[s]? = some (.scr (ns.map D.int))) (ht : 0 < top) (ht2 : top ≤ 60) (hn : ns.length ≤ LEN) : ∃ r π', ∃ cs : List Int,
    hCells [.ref s, .int top] π = .ok (.ref r) π' ∧ π'[r]? = some (.lst (cs.map D.int)) ∧ 0 < cs.length ∧ cs.length ≤ top ∧ Fr [] π π' := by
  obtain ⟨r, π3, cs, e1, hr, hc0, hc1, hc2, fr1, hrl⟩ := cells_first (x2 := none) (x3 := none) (x4 := none) (x5 := none) hs ht hn
  have hs3 := fr1 s _ List.not_mem_nil hs
  obtain ⟨ms, hc, hm⟩ := cutD_ints ns (some (top : Int)) (some (63 : Int))
  have hml : 0 < ms.length → top < ns.length := by
    intro h
    rw [hm, HT.sIx_nat, List.length_take, List.length_drop] at h
    omega
  have hml2 : ms.length ≤ 63 := by
    rw [hm, show (some (63 : Int)) = some ((63 : Nat) : Int) from rfl, HT.sIx_nat, HT.sIx_nat, List.length_take]
    omega
  have e2 : iEnum (aCons (eSl (eVar 0) (pSome (eVar 1)) (pSome (eC (.int 63)))) aNil) [some (.ref s), some (.int top), some (.ref r), none, none, none] π3 = .ok (srcEnum (.ref π3.length)) (π3 ++ [.lst (ms.map D.int)]) := by
    unfold iEnum eSl pSome
    simp only [runB, sSeq, sSet, sRet, sIf, sNil, sExpr, sAsg, sRaise0, sPar, sPar3, sStore, eVar, eC, eBin, eUn, eCall, eTup, eIf, eAnd, eOr, eNot, aNil, aCons, tst, tstB, tNot1, tAnd2, tOr2, trD, truV, blD, R.bind_ok, R.bind_bad, R.bind_exc, R.then_ok, R.then_bad, R.then_exc, opAdd_int, opSub_int, opNeg_int, cmpI_int, opIx_t0, opIx_t1, bGcd_int, bAbs_nat, bInt_int, bInt_tt, bInt_ff, bLen_tup, decide_true, decide_false, Bool.not_true, Bool.not_false, opEq_int, opNe_int, opEq_bl, opNe_bl, List.length_cons, List.length_nil, List.map_cons, List.map_nil, List.replicate, List.cons_append, List.nil_append, List.getElem?_cons_zero, List.getElem?_cons_succ, List.set_cons_zero, List.set_cons_succ, Nat.reduceAdd, Nat.reduceSub, Nat.reduceLeDiff, if_true, if_false, ite_true, ite_false, le_LEN, opSl_ref (items_scr hs3), hc, items_lst at_len]
  have hrr : r < π3.length := lt_of_at hr
  obtain ⟨ρ', π', e3, x3, x4, x5, cs', q1, q2, q3, q4, q5⟩ := for_run (src := srcEnum (.ref π3.length)) (tv := vTup 2 (vCons (vName 3) (vCons (vName 4) vNil)))
    (body := sSeq (sSet 5 (eBin opMod (eCall bInt (aCons (eVar 3) aNil)) (eVar 1))) (sStore (eVar 2) (eVar 5) (eBin opAdd (eBin opIx (eVar 2) (eVar 5)) (eBin opMul (eVar 4) (eBin opAdd (eVar 3) (eC (.int 2)))))))
    (N := ms.length) (fun i ρ π' => ∃ x3 x4 x5, ∃ cs' : List Int, ρ = [some (.ref s), some (.int top), some (.ref r), x3, x4, x5] ∧ π'[r]? = some (.lst (cs'.map D.int)) ∧ cs'.length = cs.length ∧ π'[π3.length]? = some (.lst (ms.map D.int)) ∧ Fr [] π π')
    (fun ρ π' ⟨x3, x4, x5, cs', q1, q2, q3, q4, q5⟩ => by
      unfold srcEnum
      simp only [items_lst q4, List.getElem?_map, List.getElem?_eq_none (Nat.le_refl _), Option.map_none, List.length_map, if_true])
    (fun i ρ π' hi ⟨x3, x4, x5, cs', q1, q2, q3, q4, q5⟩ => by
      subst q1
      have hit : top < ns.length := hml (by omega)
      have hcl : cs'.length = top := by rw [q3]; exact hc2 hit
      have hm1 : (0 : Int) < (top : Int) := by omega
      have hj : i % top < cs'.length := by rw [hcl]; exact Nat.mod_lt _ ht
      have hix : L2.atI (cs'.map D.int) ((i % top : Nat) : Int) = some (.int cs'[i % top]) := L2.atI_nat (by rw [List.getElem?_map, List.getElem?_eq_getElem hj]; rfl)
      have hst : L2.ixN (cs'.map D.int).length ((i % top : Nat) : Int) = some (i % top) := by
        unfold L2.ixN
        rw [if_pos (by omega), if_pos (by rw [List.length_map]; omega)]
        rfl
      have mo : mulOk ms[i] ((i : Nat) + 2 : Int) = true := mulOk_right (by have := hml2; omega)
      have hmod : ((i : Nat) : Int) % (top : Int) = ((i % top : Nat) : Int) := (Int.natCast_emod i top).symm
      refine ⟨.tup [.int (i : Nat), .int ms[i]], [some (.ref s), some (.int top), some (.ref r), some (.int (i : Nat)), some (.int ms[i]), x5], _, π'.set r (.lst ((cs'.set (i % top) (cs'[i % top] + ms[i] * ((i : Nat) + 2))).map D.int)), ?_, rfl, ?_, some (.int (i : Nat)), some (.int ms[i]), some (.int (i % top : Nat)), cs'.set (i % top) (cs'[i % top] + ms[i] * ((i : Nat) + 2)), rfl, ?_, by rw [List.length_set]; exact q3, ?_, ?_⟩
      · unfold srcEnum
        simp only [items_lst q4, List.getElem?_map, List.getElem?_eq_getElem hi, Option.map_some]
      · simp only [runB, sSeq, sSet, sRet, sIf, sNil, sExpr, sAsg, sRaise0, sPar, sPar3, sStore, eVar, eC, eBin, eUn, eCall, eTup, eIf, eAnd, eOr, eNot, aNil, aCons, tst, tstB, tNot1, tAnd2, tOr2, trD, truV, blD, R.bind_ok, R.bind_bad, R.bind_exc, R.then_ok, R.then_bad, R.then_exc, opAdd_int, opSub_int, opNeg_int, cmpI_int, opIx_t0, opIx_t1, bGcd_int, bAbs_nat, bInt_int, bInt_tt, bInt_ff, bLen_tup, decide_true, decide_false, Bool.not_true, Bool.not_false, opEq_int, opNe_int, opEq_bl, opNe_bl, List.length_cons, List.length_nil, List.map_cons, List.map_nil, List.replicate, List.cons_append, List.nil_append, List.getElem?_cons_zero, List.getElem?_cons_succ, List.set_cons_zero, List.set_cons_succ, Nat.reduceAdd, Nat.reduceSub, Nat.reduceLeDiff, if_true, if_false, ite_true, ite_false, le_LEN, opMod_ok hm1, hmod, opIx_ref q2 hix, opMul_ok mo, stIx_ok q2 hst, List.map_set]
      · exact at_set q2
      · rw [List.getElem?_set_ne (by omega)]; exact q4
      · intro k c hk hkc
        rw [List.getElem?_set_ne (by have := lt_of_at hkc; omega)]
        exact q5 k c hk hkc)
    FU 0 [some (.ref s), some (.int top), some (.ref r), none, none, none] (π3 ++ [.lst (ms.map D.int)]) ⟨none, none, none, cs, rfl, fr_app (M := []) _ _ _ _ List.not_mem_nil hr, rfl, at_len, fr1.trans (fr_app _ _)⟩ (Nat.zero_le _) (FU_big (by omega))
  refine ⟨r, π', cs', ?_, q2, by omega, by omega, q5⟩
  subst q1
  unfold hCells kCells
  exact ex_runB rfl (ex_seq (ex_set e1) (ex_seq (ex_for e2 e3) (ex_ret rfl)))
/-! the source of draws -/
theorem box_pow {π : PH} : opPow (.int 10) (.int 18) π = .ok (.int 1000000000000000000) π := by
    unfold opPow
    simp only [Int.reduceLE, decide_true, Int.reduceToNat, Int.reducePow, Bool.true_and]
    exact if_pos (by decide)
theorem box_m1 (z : Int) : ∀ (b : Bool), mulOk (z.natAbs : Nat) (if b = true then 1 else 0) = true := fun b => mulOk_right (by cases b <;> decide)
theorem box_cell {π : PH} {r k : Nat} {cs : List Int} (hr : π[r]? = some (.lst (cs.map D.int))) (hk : k < cs.length) : (eIf (tstB (eBin opLt (eVar 1) (eCall bLen (aCons (eVar 0) aNil)))) (eBin opIx (eVar 0) (eVar 1)) (eC (.int 0))) [some (.ref r), some (.int k), none] π = .ok (.int cs[k]) π := by
  have hix : L2.atI (cs.map D.int) (k : Int) = some (.int cs[k]) := L2.atI_nat (by rw [List.getElem?_map, List.getElem?_eq_getElem hk]; rfl)
  have hlt : ((k : Nat) : Int) < (((cs.map D.int).length : Nat) : Int) := by rw [List.length_map]; omega
  simp only [runB, sSeq, sSet, sRet, sIf, sNil, sExpr, sAsg, sRaise0, sPar, sPar3, sStore, eVar, eC, eBin, eUn, eCall, eTup, eIf, eAnd, eOr, eNot, aNil, aCons, tst, tstB, tNot1, tAnd2, tOr2, trD, truV, blD, R.bind_ok, R.bind_bad, R.bind_exc, R.then_ok, R.then_bad, R.then_exc, opAdd_int, opSub_int, opNeg_int, cmpI_int, opIx_t0, opIx_t1, bGcd_int, bAbs_nat, bInt_int, bInt_tt, bInt_ff, bLen_tup, decide_true, decide_false, Bool.not_true, Bool.not_false, opEq_int, opNe_int, opEq_bl, opNe_bl, List.length_cons, List.length_nil, List.map_cons, List.map_nil, List.replicate, List.cons_append, List.nil_append, List.getElem?_cons_zero, List.getElem?_cons_succ, List.set_cons_zero, List.set_cons_succ, Nat.reduceAdd, Nat.reduceSub, Nat.reduceLeDiff, if_true, if_false, ite_true, ite_false, le_LEN, bLen_ref hr, hlt, opIx_ref hr hix]
theorem box_ok {π : PH} {r k : Nat} {cs : List Int} (hr : π[r]? = some (.lst (cs.map D.int))) (hk : k < cs.length) (hk2 : k ≤ 1000) : ∃ π', hBox [.ref r, .int k] π = .ok (.ref π.length) π' ∧ Urn π' π.length 0 ∧ Fr [] π π' := by
  have e1 := box_cell hr hk
  generalize cs[k] = z at e1
  have hp := @box_pow π
  have m2 : mulOk 39373 (k : Int) = true := mulOk_left (by decide)
  have B : (eBin opAdd (eBin opAdd (eBin opMod (eCall bInt (aCons (eVar 2) aNil)) (eC (.int 2305843009213693951))) (eBin opMul (eC (.int 39373)) (eVar 1))) (eC (.int 94107))) [some (.ref r), some (.int k), some (.int z)] π = .ok (.int (z % 2305843009213693951 + 39373 * k + 94107)) π := by
    simp only [runB, sSeq, sSet, sRet, sIf, sNil, sExpr, sAsg, sRaise0, sPar, sPar3, sStore, eVar, eC, eBin, eUn, eCall, eTup, eIf, eAnd, eOr, eNot, aNil, aCons, tst, tstB, tNot1, tAnd2, tOr2, trD, truV, blD, R.bind_ok, R.bind_bad, R.bind_exc, R.then_ok, R.then_bad, R.then_exc, opAdd_int, opSub_int, opNeg_int, cmpI_int, opIx_t0, opIx_t1, bGcd_int, bAbs_nat, bInt_int, bInt_tt, bInt_ff, bLen_tup, decide_true, decide_false, Bool.not_true, Bool.not_false, opEq_int, opNe_int, opEq_bl, opNe_bl, List.length_cons, List.length_nil, List.map_cons, List.map_nil, List.replicate, List.cons_append, List.nil_append, List.getElem?_cons_zero, List.getElem?_cons_succ, List.set_cons_zero, List.set_cons_succ, Nat.reduceAdd, Nat.reduceSub, Nat.reduceLeDiff, if_true, if_false, ite_true, ite_false, le_LEN, opMul_ok m2, opMod_ok (show (0 : Int) < 2305843009213693951 by decide)]
  have A : ∀ b : Bool, decide ((1000000000000000000 : Int) ≤ ((z.natAbs : Nat) : Int)) = b → ∃ y, (eBin opMul (eCall bAbs (aCons (eVar 2) aNil)) (eCall bInt (aCons (eBin opGe (eCall bAbs (aCons (eVar 2) aNil)) (eBin opPow (eC (.int 10)) (eC (.int 18)))) aNil))) [some (.ref r), some (.int k), some (.int z)] π = .ok (.int y) π := by
    intro b hb
    have m1 : mulOk (z.natAbs : Nat) (if b = true then 1 else 0) = true := mulOk_right (by cases b <;> decide)
    refine ⟨_, ex_bin (ex_call (ex_cons rfl ex_nil) bAbs_nat) (ex_call (ex_cons (ex_bin (ex_call (ex_cons rfl ex_nil) bAbs_nat) (ex_bin rfl rfl hp) cmpI_int) ex_nil) ?_) (opMul_ok m1)⟩
    rw [hb]; exact bInt_bl
  obtain ⟨y, A⟩ := A _ rfl
  exact ⟨_, ex_runB rfl (ex_seq (ex_set e1) (ex_ret (ex_lst (ex_cons A (ex_cons B (ex_cons rfl ex_nil))) (show 3 ≤ LEN by decide)))), ⟨_, _, 0, at_len, Int.le_refl _, Int.le_refl _⟩, fr_app _ _⟩
end Lb
set_option Elab.async false
set_option linter.all false
set_option maxRecDepth 100000
set_option maxHeartbeats 4000000
namespace G
open PySem PySem.Spec PyProof.Rows L2 Lb
def topS (i : Nat) : Stmt := PySem.Challenge.pw_loopsbeside_k07_fractions.main.body.getD i (.Pass ⟨0, 0, 0, 0⟩)
structure Tx (w : Wd) (mg : Str → Option Value) : Prop where
  n_ValueError : mg "ValueError" = none
  n_abs : mg "abs" = none
  n_all : mg "all" = none
  n_bool : mg "bool" = none
  n_enumerate : mg "enumerate" = none
  n_int : mg "int" = none
  n_isinstance : mg "isinstance" = none
  n_len : mg "len" = none
  n_list : mg "list" = none
  n_range : mg "range" = none
  n_str : mg "str" = none
  n_tuple : mg "tuple" = none
  n_zip : mg "zip" = none
  i_gcd : mg "gcd" = some (.builtin "math.gcd")
  k_Unfit_ValueError : ∀ C, w.ec 0 = some C → PySem.W.kitOne w.K (.ref C) (.type "ValueError") = some true
theorem k_Unfit_ValueError {w : Wd} {mg : Str → Option Value} {C : Addr} (T : Tx w mg) (h : w.ec 0 = some C) : PySem.W.kitOne w.K (.ref C) (.type "ValueError") = some true := T.k_Unfit_ValueError C h
abbrev st_law_box : Stmt := topS 20
abbrev N_law_box : List Str := ["script", "k", "cell"]
theorem sc__law_box : FnScope ["script", "k", "cell"] ["script", "k"] (defScope st_law_box) := ⟨rfl, rfl, rfl, by decide +kernel, rfl, by decide +kernel, by decide +kernel⟩
theorem bA__law_box : BindsAll "_law_box" st_law_box ["script", "k"] := fun _ _ _ _ _ _ us hl => match us, hl with | [_, _], _ => rfl
abbrev st_lowest : Stmt := topS 9
abbrev N_lowest : List Str := ["top", "bottom", "common"]
theorem sc__lowest : FnScope ["top", "bottom", "common"] ["top", "bottom"] (defScope st_lowest) := ⟨rfl, rfl, rfl, by decide +kernel, rfl, by decide +kernel, by decide +kernel⟩
theorem bA__lowest : BindsAll "_lowest" st_lowest ["top", "bottom"] := fun _ _ _ _ _ _ us hl => match us, hl with | [_, _], _ => rfl
abbrev st_fraction : Stmt := topS 8
abbrev N_fraction : List Str := ["top", "bottom"]
theorem sc_fraction : FnScope ["top", "bottom"] ["top", "bottom"] (defScope st_fraction) := ⟨rfl, rfl, rfl, by decide +kernel, rfl, by decide +kernel, by decide +kernel⟩
theorem bA_fraction : BindsAll "fraction" st_fraction ["top", "bottom"] := fun _ _ _ _ _ _ us hl => match us, hl with | [_, _], _ => rfl
abbrev st_over : Stmt := topS 14
abbrev N_over : List Str := ["x", "y"]
theorem sc_over : FnScope ["x", "y"] ["x", "y"] (defScope st_over) := ⟨rfl, rfl, rfl, by decide +kernel, rfl, by decide +kernel, by decide +kernel⟩
theorem bA_over : BindsAll "over" st_over ["x", "y"] := fun _ _ _ _ _ _ us hl => match us, hl with | [_, _], _ => rfl
abbrev st_number_power : Stmt := topS 15
abbrev N_number_power : List Str := ["number", "many", "result"]
theorem sc_number_power : FnScope ["number", "many", "result"] ["number", "many"] (defScope st_number_power) := ⟨rfl, rfl, rfl, by decide +kernel, rfl, by decide +kernel, by decide +kernel⟩
theorem bA_number_power : BindsAll "number_power" st_number_power ["number", "many"] := fun _ _ _ _ _ _ us hl => match us, hl with | [_, _], _ => rfl
abbrev st_power_of : Stmt := topS 16
abbrev N_power_of : List Str := ["x", "many"]
theorem sc_power_of : FnScope ["x", "many"] ["x", "many"] (defScope st_power_of) := ⟨rfl, rfl, rfl, by decide +kernel, rfl, by decide +kernel, by decide +kernel⟩
theorem bA_power_of : BindsAll "power_of" st_power_of ["x", "many"] := fun _ _ _ _ _ _ us hl => match us, hl with | [_, _], _ => rfl
abbrev st_law_heard : Stmt := topS 34
abbrev N_law_heard : List Str := ["far", "near", "way_so", "error"]
theorem sc__law_heard : FnScope ["far", "near", "way_so", "error"] ["far", "near", "way_so"] (defScope st_law_heard) := ⟨rfl, rfl, rfl, by decide +kernel, rfl, by decide +kernel, by decide +kernel⟩
theorem bA__law_heard : BindsAll "_law_heard" st_law_heard ["far", "near", "way_so"] := fun _ _ _ _ _ _ us hl => match us, hl with | [_, _, _], _ => rfl
abbrev st_law_same : Stmt := topS 24
abbrev N_law_same : List Str := ["got", "goal", "mine_so", "own"]
theorem sc__law_same : FnScope ["got", "goal", "mine_so", "own"] ["got", "goal"] (defScope st_law_same) := ⟨rfl, rfl, rfl, by decide +kernel, rfl, by decide +kernel, by decide +kernel⟩
theorem bA__law_same : BindsAll "_law_same" st_law_same ["got", "goal"] := fun _ _ _ _ _ _ us hl => match us, hl with | [_, _], _ => rfl
abbrev st_is_number : Stmt := topS 4
abbrev N_is_number : List Str := ["thing"]
theorem sc_is_number : FnScope ["thing"] ["thing"] (defScope st_is_number) := ⟨rfl, rfl, rfl, by decide +kernel, rfl, by decide +kernel, by decide +kernel⟩
theorem bA_is_number : BindsAll "is_number" st_is_number ["thing"] := fun _ _ _ _ _ _ us hl => match us, hl with | [_], _ => rfl
abbrev st_is_tuple : Stmt := topS 5
abbrev N_is_tuple : List Str := ["thing", "many"]
theorem sc_is_tuple : FnScope ["thing", "many"] ["thing", "many"] (defScope st_is_tuple) := ⟨rfl, rfl, rfl, by decide +kernel, rfl, by decide +kernel, by decide +kernel⟩
theorem bA_is_tuple : BindsAll "is_tuple" st_is_tuple ["thing", "many"] := fun _ _ _ _ _ _ us hl => match us, hl with | [_, _], _ => rfl
abbrev st_is_fraction : Stmt := topS 7
abbrev N_is_fraction : List Str := ["thing"]
theorem sc_is_fraction : FnScope ["thing"] ["thing"] (defScope st_is_fraction) := ⟨rfl, rfl, rfl, by decide +kernel, rfl, by decide +kernel, by decide +kernel⟩
theorem bA_is_fraction : BindsAll "is_fraction" st_is_fraction ["thing"] := fun _ _ _ _ _ _ us hl => match us, hl with | [_], _ => rfl
abbrev st_is_less : Stmt := topS 17
abbrev N_is_less : List Str := ["x", "y"]
theorem sc_is_less : FnScope ["x", "y"] ["x", "y"] (defScope st_is_less) := ⟨rfl, rfl, rfl, by decide +kernel, rfl, by decide +kernel, by decide +kernel⟩
theorem bA_is_less : BindsAll "is_less" st_is_less ["x", "y"] := fun _ _ _ _ _ _ us hl => match us, hl with | [_, _], _ => rfl
abbrev st_minus : Stmt := topS 12
abbrev N_minus : List Str := ["x", "y"]
theorem sc_minus : FnScope ["x", "y"] ["x", "y"] (defScope st_minus) := ⟨rfl, rfl, rfl, by decide +kernel, rfl, by decide +kernel, by decide +kernel⟩
theorem bA_minus : BindsAll "minus" st_minus ["x", "y"] := fun _ _ _ _ _ _ us hl => match us, hl with | [_, _], _ => rfl
abbrev st_plus : Stmt := topS 11
abbrev N_plus : List Str := ["x", "y"]
theorem sc_plus : FnScope ["x", "y"] ["x", "y"] (defScope st_plus) := ⟨rfl, rfl, rfl, by decide +kernel, rfl, by decide +kernel, by decide +kernel⟩
theorem bA_plus : BindsAll "plus" st_plus ["x", "y"] := fun _ _ _ _ _ _ us hl => match us, hl with | [_, _], _ => rfl
abbrev st_sign_of : Stmt := topS 18
abbrev N_sign_of : List Str := ["x"]
theorem sc_sign_of : FnScope ["x"] ["x"] (defScope st_sign_of) := ⟨rfl, rfl, rfl, by decide +kernel, rfl, by decide +kernel, by decide +kernel⟩
theorem bA_sign_of : BindsAll "sign_of" st_sign_of ["x"] := fun _ _ _ _ _ _ us hl => match us, hl with | [_], _ => rfl
abbrev st_times : Stmt := topS 13
abbrev N_times : List Str := ["x", "y"]
theorem sc_times : FnScope ["x", "y"] ["x", "y"] (defScope st_times) := ⟨rfl, rfl, rfl, by decide +kernel, rfl, by decide +kernel, by decide +kernel⟩
theorem bA_times : BindsAll "times" st_times ["x", "y"] := fun _ _ _ _ _ _ us hl => match us, hl with | [_, _], _ => rfl
abbrev st_whole : Stmt := topS 10
abbrev N_whole : List Str := ["number"]
theorem sc_whole : FnScope ["number"] ["number"] (defScope st_whole) := ⟨rfl, rfl, rfl, by decide +kernel, rfl, by decide +kernel, by decide +kernel⟩
theorem bA_whole : BindsAll "whole" st_whole ["number"] := fun _ _ _ _ _ _ us hl => match us, hl with | [_], _ => rfl
abbrev st_law_by_hand_right : Stmt := topS 35
abbrev N_law_by_hand_right : List Str := ["got", "due", "good", "bad", "own"]
theorem sc__law_by_hand_right : FnScope ["got", "due", "good", "bad", "own"] [] (defScope st_law_by_hand_right) := ⟨rfl, rfl, rfl, by decide +kernel, rfl, by decide +kernel, by decide +kernel⟩
theorem bA__law_by_hand_right : BindsAll "_law_by_hand_right" st_law_by_hand_right [] := fun _ _ _ _ _ _ us hl => match us, hl with | [], _ => rfl
abbrev st_law_cells : Stmt := topS 22
abbrev N_law_cells : List Str := ["script", "top_in", "cells", "k", "cell", "at_so"]
theorem sc__law_cells : FnScope ["script", "top_in", "cells", "k", "cell", "at_so"] ["script", "top_in"] (defScope st_law_cells) := ⟨rfl, rfl, rfl, by decide +kernel, rfl, by decide +kernel, by decide +kernel⟩
theorem bA__law_cells : BindsAll "_law_cells" st_law_cells ["script", "top_in"] := fun _ _ _ _ _ _ us hl => match us, hl with | [_, _], _ => rfl
abbrev st_law_low : Stmt := topS 25
abbrev N_law_low : List Str := ["high", "deep", "near", "far", "turn"]
theorem sc__law_low : FnScope ["high", "deep", "near", "far", "turn"] ["high", "deep"] (defScope st_law_low) := ⟨rfl, rfl, rfl, by decide +kernel, rfl, by decide +kernel, by decide +kernel⟩
theorem bA__law_low : BindsAll "_law_low" st_law_low ["high", "deep"] := fun _ _ _ _ _ _ us hl => match us, hl with | [_, _], _ => rfl
abbrev st_law_add : Stmt := topS 26
abbrev N_law_add : List Str := ["left", "right"]
theorem sc__law_add : FnScope ["left", "right"] ["left", "right"] (defScope st_law_add) := ⟨rfl, rfl, rfl, by decide +kernel, rfl, by decide +kernel, by decide +kernel⟩
theorem bA__law_add : BindsAll "_law_add" st_law_add ["left", "right"] := fun _ _ _ _ _ _ us hl => match us, hl with | [_, _], _ => rfl
abbrev st_law_take : Stmt := topS 21
abbrev N_law_take : List Str := ["urn", "low_so", "drawn", "once", "far", "twice"]
theorem sc__law_take : FnScope ["urn", "low_so", "drawn", "once", "far", "twice"] ["urn", "low_so"] (defScope st_law_take) := ⟨rfl, rfl, rfl, by decide +kernel, rfl, by decide +kernel, by decide +kernel⟩
theorem bA__law_take : BindsAll "_law_take" st_law_take ["urn", "low_so"] := fun _ _ _ _ _ _ us hl => match us, hl with | [_, _], _ => rfl
abbrev st_law_frac : Stmt := topS 31
abbrev N_law_frac : List Str := ["urn", "wide_so"]
theorem sc__law_frac : FnScope ["urn", "wide_so"] ["urn", "wide_so"] (defScope st_law_frac) := ⟨rfl, rfl, rfl, by decide +kernel, rfl, by decide +kernel, by decide +kernel⟩
theorem bA__law_frac : BindsAll "_law_frac" st_law_frac ["urn", "wide_so"] := fun _ _ _ _ _ _ us hl => match us, hl with | [_, _], _ => rfl
abbrev st_law_inv : Stmt := topS 29
abbrev N_law_inv : List Str := ["left"]
theorem sc__law_inv : FnScope ["left"] ["left"] (defScope st_law_inv) := ⟨rfl, rfl, rfl, by decide +kernel, rfl, by decide +kernel, by decide +kernel⟩
theorem bA__law_inv : BindsAll "_law_inv" st_law_inv ["left"] := fun _ _ _ _ _ _ us hl => match us, hl with | [_], _ => rfl
abbrev st_law_number : Stmt := topS 32
abbrev N_law_number : List Str := ["matter"]
theorem sc__law_number : FnScope ["matter"] ["matter"] (defScope st_law_number) := ⟨rfl, rfl, rfl, by decide +kernel, rfl, by decide +kernel, by decide +kernel⟩
theorem bA__law_number : BindsAll "_law_number" st_law_number ["matter"] := fun _ _ _ _ _ _ us hl => match us, hl with | [_], _ => rfl
abbrev st_law_is_frac : Stmt := topS 33
abbrev N_law_is_frac : List Str := ["matter"]
theorem sc__law_is_frac : FnScope ["matter"] ["matter"] (defScope st_law_is_frac) := ⟨rfl, rfl, rfl, by decide +kernel, rfl, by decide +kernel, by decide +kernel⟩
theorem bA__law_is_frac : BindsAll "_law_is_frac" st_law_is_frac ["matter"] := fun _ _ _ _ _ _ us hl => match us, hl with | [_], _ => rfl
abbrev st_law_mul : Stmt := topS 27
abbrev N_law_mul : List Str := ["left", "right"]
theorem sc__law_mul : FnScope ["left", "right"] ["left", "right"] (defScope st_law_mul) := ⟨rfl, rfl, rfl, by decide +kernel, rfl, by decide +kernel, by decide +kernel⟩
theorem bA__law_mul : BindsAll "_law_mul" st_law_mul ["left", "right"] := fun _ _ _ _ _ _ us hl => match us, hl with | [_, _], _ => rfl
abbrev st_law_neg : Stmt := topS 28
abbrev N_law_neg : List Str := ["left"]
theorem sc__law_neg : FnScope ["left"] ["left"] (defScope st_law_neg) := ⟨rfl, rfl, rfl, by decide +kernel, rfl, by decide +kernel, by decide +kernel⟩
theorem bA__law_neg : BindsAll "_law_neg" st_law_neg ["left"] := fun _ _ _ _ _ _ us hl => match us, hl with | [_], _ => rfl
abbrev st_law_of : Stmt := topS 23
abbrev N_law_of : List Str := ["urn", "some_so"]
theorem sc__law_of : FnScope ["urn", "some_so"] ["urn", "some_so"] (defScope st_law_of) := ⟨rfl, rfl, rfl, by decide +kernel, rfl, by decide +kernel, by decide +kernel⟩
theorem bA__law_of : BindsAll "_law_of" st_law_of ["urn", "some_so"] := fun _ _ _ _ _ _ us hl => match us, hl with | [_, _], _ => rfl
abbrev st_law_pow : Stmt := topS 30
abbrev N_law_pow : List Str := ["left", "size_so", "got", "lap"]
theorem sc__law_pow : FnScope ["left", "size_so", "got", "lap"] ["left", "size_so"] (defScope st_law_pow) := ⟨rfl, rfl, rfl, by decide +kernel, rfl, by decide +kernel, by decide +kernel⟩
theorem bA__law_pow : BindsAll "_law_pow" st_law_pow ["left", "size_so"] := fun _ _ _ _ _ _ us hl => match us, hl with | [_, _], _ => rfl
abbrev st_law_thing : Stmt := topS 36
abbrev N_law_thing : List Str := ["urn", "way_so", "far", "near"]
theorem sc__law_thing : FnScope ["urn", "way_so", "far", "near"] ["urn"] (defScope st_law_thing) := ⟨rfl, rfl, rfl, by decide +kernel, rfl, by decide +kernel, by decide +kernel⟩
theorem bA__law_thing : BindsAll "_law_thing" st_law_thing ["urn"] := fun _ _ _ _ _ _ us hl => match us, hl with | [_], _ => rfl
abbrev st_law_right : Stmt := topS 37
abbrev N_law_right : List Str := ["urn", "turn", "wide_so", "left", "right", "got", "due", "gap", "far", "near", "size_so", "lap", "matter"]
theorem sc__law_right : FnScope ["urn", "turn", "wide_so", "left", "right", "got", "due", "gap", "far", "near", "size_so", "lap", "matter"] ["urn"] (defScope st_law_right) := ⟨rfl, rfl, rfl, by decide +kernel, rfl, by decide +kernel, by decide +kernel⟩
theorem bA__law_right : BindsAll "_law_right" st_law_right ["urn"] := fun _ _ _ _ _ _ us hl => match us, hl with | [_], _ => rfl
abbrev st_law : Stmt := topS 38
abbrev N_law : List Str := ["script", "cells_so", "k"]
theorem sc_law : FnScope ["script", "cells_so", "k"] ["script"] (defScope st_law) := ⟨rfl, rfl, rfl, by decide +kernel, rfl, by decide +kernel, by decide +kernel⟩
theorem bA_law : BindsAll "law" st_law ["script"] := fun _ _ _ _ _ _ us hl => match us, hl with | [_], _ => rfl
theorem bK_0 : BindsKw "fraction" st_fraction ["top", "bottom"] ["bottom", "top"] 0 2 [1, 0] := fun _ _ _ _ _ _ us ws h1 h2 => match us, ws, h1, h2 with | [], [_, _], _, _ => rfl
theorem bK_1 : BindsKw "whole" st_whole ["number"] ["number"] 0 1 [0] := fun _ _ _ _ _ _ us ws h1 h2 => match us, ws, h1, h2 with | [], [_], _, _ => rfl
theorem bK_2 : BindsKw "plus" st_plus ["x", "y"] ["y", "x"] 0 2 [1, 0] := fun _ _ _ _ _ _ us ws h1 h2 => match us, ws, h1, h2 with | [], [_, _], _, _ => rfl
theorem bK_3 : BindsKw "minus" st_minus ["x", "y"] ["y", "x"] 0 2 [1, 0] := fun _ _ _ _ _ _ us ws h1 h2 => match us, ws, h1, h2 with | [], [_, _], _, _ => rfl
theorem bK_4 : BindsKw "over" st_over ["x", "y"] ["y", "x"] 0 2 [1, 0] := fun _ _ _ _ _ _ us ws h1 h2 => match us, ws, h1, h2 with | [], [_, _], _, _ => rfl
theorem bK_5 : BindsKw "power_of" st_power_of ["x", "many"] ["many", "x"] 0 2 [1, 0] := fun _ _ _ _ _ _ us ws h1 h2 => match us, ws, h1, h2 with | [], [_, _], _, _ => rfl
theorem bK_6 : BindsKw "is_less" st_is_less ["x", "y"] ["y", "x"] 0 2 [1, 0] := fun _ _ _ _ _ _ us ws h1 h2 => match us, ws, h1, h2 with | [], [_, _], _, _ => rfl
theorem bK_7 : BindsKw "sign_of" st_sign_of ["x"] ["x"] 0 1 [0] := fun _ _ _ _ _ _ us ws h1 h2 => match us, ws, h1, h2 with | [], [_], _, _ => rfl
theorem bK_8 : BindsKw "is_fraction" st_is_fraction ["thing"] ["thing"] 0 1 [0] := fun _ _ _ _ _ _ us ws h1 h2 => match us, ws, h1, h2 with | [], [_], _, _ => rfl
def b_law_box : Sv :=
    (sSeq (sSet 2 (eIf (tstB (eBin opLt (eVar 1) (eCall bLen (aCons (eVar 0) aNil)))) (eBin opIx (eVar 0) (eVar 1)) (eC (.int 0))))
    (sRet (eLst (aCons (eBin opMul (eCall bAbs (aCons (eVar 2) aNil)) (eCall bInt (aCons (eBin opGe (eCall bAbs (aCons (eVar 2) aNil)) (eBin opPow (eC (.int 10)) (eC (.int 18)))) aNil))) (aCons (eBin opAdd (eBin opAdd (eBin opMod (eCall bInt (aCons (eVar 2) aNil)) (eC (.int 2305843009213693951))) (eBin opMul (eC (.int 39373)) (eVar 1))) (eC (.int 94107))) (aCons (eC (.int 0)) aNil))))))
def f_law_box : ON := runB 2 3 b_law_box
theorem ok__law_box {P : Program} {wd : World} {w : Wd} {mg : Str → Option Value} {base : Heap} (T : Tx w mg) {ad : Addr} {fd : FuncData} (hm : mg "_law_box" = some (.ref ad)) (F : Fun w.K "_law_box" "_law_box" st_law_box ad fd) :
    Ent P wd w mg base "_law_box" st_law_box ad fd 1 ["script", "k"] f_law_box :=
  ⟨fn_D F sc__law_box rfl rfl fun cdv A outer s H E hr => by
    have TK := takes_of (X := cxOf (L2.CX P wd) P wd w.K mg base N_law_box "_law_box" (defScope st_law_box) ad cdv A outer s H E) rfl rfl rfl rfl
    have PO := passes_of (X := cxOf (L2.CX P wd) P wd w.K mg base N_law_box "_law_box" (defScope st_law_box) ad cdv A outer s H E) rfl
    exact (ds_cons (ds_set (i := 2) sc__law_box.nd rfl (by first | exact .inl rfl | exact .inr rfl) (de_if (dt_cmp op_lt (cov_cmpI _) (de_var 1 (pv 1)) (de_callB callr_len cov_len rfl T.n_len (by decide +kernel) (da_cons (de_var 0 (pv 0)) da_nil))) (de_ix rfl (de_var 0 (pv 0)) (de_var 1 (pv 1))) de_int))
    (ds_one (ds_ret (de_lst (da_cons (de_op opr_mul cov_mul (de_callB call_abs cov_abs rfl T.n_abs (by decide +kernel) (da_cons (de_var 2 (pv 2)) da_nil)) (de_callTy call_int1 cov_int rfl T.n_int (by decide +kernel) (da_cons (de_cmp op_ge (cov_cmpI _) (de_callB call_abs cov_abs rfl T.n_abs (by decide +kernel) (da_cons (de_var 2 (pv 2)) da_nil)) (de_op op_pow cov_pow de_int de_int)) da_nil))) (da_cons (de_op opr_add cov_add (de_op opr_add cov_add (de_op op_mod cov_mod (de_callTy call_int1 cov_int rfl T.n_int (by decide +kernel) (da_cons (de_var 2 (pv 2)) da_nil)) de_int) (de_op opr_mul cov_mul de_int (de_var 1 (pv 1)))) de_int) (da_cons de_int da_nil))))))), hm, F⟩
def b_lowest : Sv :=
    (sSeq (sSet 2 (eCall bGcd (aCons (eVar 0) (aCons (eVar 1) aNil))))
    (sRet (eTup (aCons (eBin opDiv (eVar 0) (eVar 2)) (aCons (eBin opDiv (eVar 1) (eVar 2)) aNil)))))
def f_lowest : ON := runB 2 3 b_lowest
theorem ok__lowest {P : Program} {wd : World} {w : Wd} {mg : Str → Option Value} {base : Heap} (T : Tx w mg) {ad : Addr} {fd : FuncData} (hm : mg "_lowest" = some (.ref ad)) (F : Fun w.K "_lowest" "_lowest" st_lowest ad fd) :
    Ent P wd w mg base "_lowest" st_lowest ad fd 1 ["top", "bottom"] f_lowest :=
  ⟨fn_D F sc__lowest rfl rfl fun cdv A outer s H E hr => by
    have TK := takes_of (X := cxOf (L2.CX P wd) P wd w.K mg base N_lowest "_lowest" (defScope st_lowest) ad cdv A outer s H E) rfl rfl rfl rfl
    have PO := passes_of (X := cxOf (L2.CX P wd) P wd w.K mg base N_lowest "_lowest" (defScope st_lowest) ad cdv A outer s H E) rfl
    exact (ds_cons (ds_set (i := 2) sc__lowest.nd rfl (by first | exact .inl rfl | exact .inr rfl) (de_callBf cr_gcd cov_gcd rfl T.i_gcd (da_cons (de_var 0 (pv 0)) (da_cons (de_var 1 (pv 1)) da_nil))))
    (ds_one (ds_ret (de_tup (da_cons (de_op op_fdivW cov_div (de_var 0 (pv 0)) (de_var 2 (pv 2))) (da_cons (de_op op_fdivW cov_div (de_var 1 (pv 1)) (de_var 2 (pv 2))) da_nil)))))), hm, F⟩
def b_fraction : Sv :=
    (sSeq (sIf (tstB (eBin opEq (eVar 1) (eC (.int 0)))) (sRaise0 0) sNil)
    (sSeq (sIf (tstB (eBin opLt (eVar 1) (eC (.int 0)))) (sRet (eCall f_lowest (aCons (eUn opNeg (eVar 0)) (aCons (eUn opNeg (eVar 1)) aNil)))) sNil)
    (sRet (eCall f_lowest (aCons (eVar 0) (aCons (eVar 1) aNil))))))
def f_fraction : ON := runB 2 2 b_fraction
theorem ok_fraction {P : Program} {wd : World} {w : Wd} {mg : Str → Option Value} {base : Heap} (T : Tx w mg) {ad : Addr} {fd : FuncData} (hm : mg "fraction" = some (.ref ad)) (F : Fun w.K "fraction" "fraction" st_fraction ad fd) {a__lowest : Addr} {d__lowest : FuncData} (G__lowest : Ent P wd w mg base "_lowest" st_lowest a__lowest d__lowest 1 ["top", "bottom"] f_lowest) {C_Unfit : Addr} (E_Unfit : w.ec 0 = some C_Unfit ∧ Err0 w.K mg "Unfit" C_Unfit [.type "ValueError", .type "Exception", .type "BaseException", .type "object"] "ValueError.__new__" ∧ ErrT w.K C_Unfit) :
    Ent P wd w mg base "fraction" st_fraction ad fd 2 ["top", "bottom"] f_fraction :=
  ⟨fn_D F sc_fraction rfl rfl fun cdv A outer s H E hr => by
    have TK := takes_of (X := cxOf (L2.CX P wd) P wd w.K mg base N_fraction "fraction" (defScope st_fraction) ad cdv A outer s H E) rfl rfl rfl rfl
    have PO := passes_of (X := cxOf (L2.CX P wd) P wd w.K mg base N_fraction "fraction" (defScope st_fraction) ad cdv A outer s H E) rfl
    exact (ds_cons (ds_if (dt_cmp (op_eqD hr.units) cov_eq (de_var 1 (pv 1)) de_int) (ds_one (ds_raiseE rfl PySem.F.excBase_ValueError E_Unfit.2.1 rfl TK rfl E_Unfit.1)) ds_nil)
    (ds_cons (ds_if (dt_cmp op_lt (cov_cmpI _) (de_var 1 (pv 1)) de_int) (ds_one (ds_ret (de_callE rfl G__lowest bA__lowest (hr.mono (by decide)) rfl TK (da_cons (de_un un_neg cov_neg (de_var 0 (pv 0))) (da_cons (de_un un_neg cov_neg (de_var 1 (pv 1))) da_nil))))) ds_nil)
    (ds_one (ds_ret (de_callE rfl G__lowest bA__lowest (hr.mono (by decide)) rfl TK (da_cons (de_var 0 (pv 0)) (da_cons (de_var 1 (pv 1)) da_nil))))))), hm, F⟩
def b_over : Sv :=
    (sRet (eCall f_fraction (aCons (eBin opMul (eBin opIx (eVar 0) (eC (.int 0))) (eBin opIx (eVar 1) (eC (.int 1)))) (aCons (eBin opMul (eBin opIx (eVar 0) (eC (.int 1))) (eBin opIx (eVar 1) (eC (.int 0)))) aNil))))
def f_over : ON := runB 2 2 b_over
theorem ok_over {P : Program} {wd : World} {w : Wd} {mg : Str → Option Value} {base : Heap} (T : Tx w mg) {ad : Addr} {fd : FuncData} (hm : mg "over" = some (.ref ad)) (F : Fun w.K "over" "over" st_over ad fd) {a_fraction : Addr} {d_fraction : FuncData} (G_fraction : Ent P wd w mg base "fraction" st_fraction a_fraction d_fraction 2 ["top", "bottom"] f_fraction) :
    Ent P wd w mg base "over" st_over ad fd 3 ["x", "y"] f_over :=
  ⟨fn_D F sc_over rfl rfl fun cdv A outer s H E hr => by
    have TK := takes_of (X := cxOf (L2.CX P wd) P wd w.K mg base N_over "over" (defScope st_over) ad cdv A outer s H E) rfl rfl rfl rfl
    have PO := passes_of (X := cxOf (L2.CX P wd) P wd w.K mg base N_over "over" (defScope st_over) ad cdv A outer s H E) rfl
    exact (ds_one (ds_ret (de_callE rfl G_fraction bA_fraction (hr.mono (by decide)) rfl TK (da_cons (de_op opr_mul cov_mul (de_ix rfl (de_var 0 (pv 0)) de_int) (de_ix rfl (de_var 1 (pv 1)) de_int)) (da_cons (de_op opr_mul cov_mul (de_ix rfl (de_var 0 (pv 0)) de_int) (de_ix rfl (de_var 1 (pv 1)) de_int)) da_nil))))), hm, F⟩
def b_number_power : Sv :=
    (sSeq (sSet 2 (eC (.int 1)))
    (sSeq (sWhile (tstB (eBin opGt (eVar 1) (eC (.int 0)))) (sSeq (sIf (tst (eBin opAndB (eVar 1) (eC (.int 1)))) (sSet 2 (eBin opMul (eVar 2) (eVar 0))) sNil)
    (sSeq (sSet 0 (eBin opMul (eVar 0) (eVar 0)))
    (sSet 1 (eBin opShr (eVar 1) (eC (.int 1)))))))
    (sRet (eVar 2))))
def f_number_power : ON := runB 2 3 b_number_power
theorem ok_number_power {P : Program} {wd : World} {w : Wd} {mg : Str → Option Value} {base : Heap} (T : Tx w mg) {ad : Addr} {fd : FuncData} (hm : mg "number_power" = some (.ref ad)) (F : Fun w.K "number_power" "number_power" st_number_power ad fd) :
    Ent P wd w mg base "number_power" st_number_power ad fd 1 ["number", "many"] f_number_power :=
  ⟨fn_D F sc_number_power rfl rfl fun cdv A outer s H E hr => by
    have TK := takes_of (X := cxOf (L2.CX P wd) P wd w.K mg base N_number_power "number_power" (defScope st_number_power) ad cdv A outer s H E) rfl rfl rfl rfl
    have PO := passes_of (X := cxOf (L2.CX P wd) P wd w.K mg base N_number_power "number_power" (defScope st_number_power) ad cdv A outer s H E) rfl
    exact (ds_cons (ds_set (i := 2) sc_number_power.nd rfl (by first | exact .inl rfl | exact .inr rfl) de_int)
    (ds_cons (ds_while PO (dt_cmp op_gt (cov_cmpI _) (de_var 1 (pv 1)) de_int) (ds_cons (ds_if (dt_tru rfl (de_op op_and cov_andB (de_var 1 (pv 1)) de_int)) (ds_one (ds_set (i := 2) sc_number_power.nd rfl (by first | exact .inl rfl | exact .inr rfl) (de_op opr_mul cov_mul (de_var 2 (pv 2)) (de_var 0 (pv 0))))) ds_nil)
    (ds_cons (ds_set (i := 0) sc_number_power.nd rfl (by first | exact .inl rfl | exact .inr rfl) (de_op opr_mul cov_mul (de_var 0 (pv 0)) (de_var 0 (pv 0))))
    (ds_one (ds_set (i := 1) sc_number_power.nd rfl (by first | exact .inl rfl | exact .inr rfl) (de_op op_shr cov_shr (de_var 1 (pv 1)) de_int))))))
    (ds_one (ds_ret (de_var 2 (pv 2)))))), hm, F⟩
def b_power_of : Sv :=
    (sSeq (sIf (tstB (eBin opGe (eVar 1) (eC (.int 0)))) (sRet (eTup (aCons (eCall f_number_power (aCons (eBin opIx (eVar 0) (eC (.int 0))) (aCons (eVar 1) aNil))) (aCons (eCall f_number_power (aCons (eBin opIx (eVar 0) (eC (.int 1))) (aCons (eVar 1) aNil))) aNil)))) sNil)
    (sRet (eCall f_fraction (aCons (eCall f_number_power (aCons (eBin opIx (eVar 0) (eC (.int 1))) (aCons (eUn opNeg (eVar 1)) aNil))) (aCons (eCall f_number_power (aCons (eBin opIx (eVar 0) (eC (.int 0))) (aCons (eUn opNeg (eVar 1)) aNil))) aNil)))))
def f_power_of : ON := runB 2 2 b_power_of
theorem ok_power_of {P : Program} {wd : World} {w : Wd} {mg : Str → Option Value} {base : Heap} (T : Tx w mg) {ad : Addr} {fd : FuncData} (hm : mg "power_of" = some (.ref ad)) (F : Fun w.K "power_of" "power_of" st_power_of ad fd) {a_number_power : Addr} {d_number_power : FuncData} (G_number_power : Ent P wd w mg base "number_power" st_number_power a_number_power d_number_power 1 ["number", "many"] f_number_power) {a_fraction : Addr} {d_fraction : FuncData} (G_fraction : Ent P wd w mg base "fraction" st_fraction a_fraction d_fraction 2 ["top", "bottom"] f_fraction) :
    Ent P wd w mg base "power_of" st_power_of ad fd 3 ["x", "many"] f_power_of :=
  ⟨fn_D F sc_power_of rfl rfl fun cdv A outer s H E hr => by
    have TK := takes_of (X := cxOf (L2.CX P wd) P wd w.K mg base N_power_of "power_of" (defScope st_power_of) ad cdv A outer s H E) rfl rfl rfl rfl
    have PO := passes_of (X := cxOf (L2.CX P wd) P wd w.K mg base N_power_of "power_of" (defScope st_power_of) ad cdv A outer s H E) rfl
    exact (ds_cons (ds_if (dt_cmp op_ge (cov_cmpI _) (de_var 1 (pv 1)) de_int) (ds_one (ds_ret (de_tup (da_cons (de_callE rfl G_number_power bA_number_power (hr.mono (by decide)) rfl TK (da_cons (de_ix rfl (de_var 0 (pv 0)) de_int) (da_cons (de_var 1 (pv 1)) da_nil))) (da_cons (de_callE rfl G_number_power bA_number_power (hr.mono (by decide)) rfl TK (da_cons (de_ix rfl (de_var 0 (pv 0)) de_int) (da_cons (de_var 1 (pv 1)) da_nil))) da_nil))))) ds_nil)
    (ds_one (ds_ret (de_callE rfl G_fraction bA_fraction (hr.mono (by decide)) rfl TK (da_cons (de_callE rfl G_number_power bA_number_power (hr.mono (by decide)) rfl TK (da_cons (de_ix rfl (de_var 0 (pv 0)) de_int) (da_cons (de_un un_neg cov_neg (de_var 1 (pv 1))) da_nil))) (da_cons (de_callE rfl G_number_power bA_number_power (hr.mono (by decide)) rfl TK (da_cons (de_ix rfl (de_var 0 (pv 0)) de_int) (da_cons (de_un un_neg cov_neg (de_var 1 (pv 1))) da_nil))) da_nil)))))), hm, F⟩
def b_law_heard : Sv :=
    (sTryAs (sSeq (sIf (tstB (eBin opEq (eVar 2) (eC (.int 0)))) (sRet (eCall f_fraction (aCons (eVar 0) (aCons (eVar 1) aNil)))) sNil)
    (sRet (eIf (tstB (eBin opEq (eVar 2) (eC (.int 1)))) (eCall f_over (aCons (eVar 0) (aCons (eVar 1) aNil))) (eCall f_power_of (aCons (eVar 0) (aCons (eVar 1) aNil)))))) 3 (fun c => if c = 0 then some true else none) (fun a e => onNone e (sRet (eLst (aCons (eC (.str ("unfit" : Str))) (aCons (eIsErr 3 a true) aNil))))))
def f_law_heard : ON := runB 3 4 b_law_heard
theorem ok__law_heard {P : Program} {wd : World} {w : Wd} {mg : Str → Option Value} {base : Heap} (T : Tx w mg) {ad : Addr} {fd : FuncData} (hm : mg "_law_heard" = some (.ref ad)) (F : Fun w.K "_law_heard" "_law_heard" st_law_heard ad fd) {a_fraction : Addr} {d_fraction : FuncData} (G_fraction : Ent P wd w mg base "fraction" st_fraction a_fraction d_fraction 2 ["top", "bottom"] f_fraction) {a_over : Addr} {d_over : FuncData} (G_over : Ent P wd w mg base "over" st_over a_over d_over 3 ["x", "y"] f_over) {a_power_of : Addr} {d_power_of : FuncData} (G_power_of : Ent P wd w mg base "power_of" st_power_of a_power_of d_power_of 3 ["x", "many"] f_power_of) {C_Unfit : Addr} (E_Unfit : w.ec 0 = some C_Unfit ∧ Err0 w.K mg "Unfit" C_Unfit [.type "ValueError", .type "Exception", .type "BaseException", .type "object"] "ValueError.__new__" ∧ ErrT w.K C_Unfit) :
    Ent P wd w mg base "_law_heard" st_law_heard ad fd 4 ["far", "near", "way_so"] f_law_heard :=
  ⟨fn_D F sc__law_heard rfl rfl fun cdv A outer s H E hr => by
    have TK := takes_of (X := cxOf (L2.CX P wd) P wd w.K mg base N_law_heard "_law_heard" (defScope st_law_heard) ad cdv A outer s H E) rfl rfl rfl rfl
    have PO := passes_of (X := cxOf (L2.CX P wd) P wd w.K mg base N_law_heard "_law_heard" (defScope st_law_heard) ad cdv A outer s H E) rfl
    exact (ds_one (ds_tryAs (i := 3) rfl rfl sc__law_heard.nd rfl rfl ⟨rfl, by decide, .inl E_Unfit.2.1.g⟩ TK (hit_one E_Unfit.1 E_Unfit.2.2.te) (fun W' pn xe TKt PO => (ds_cons (ds_if (dt_cmp (op_eqD hr.units) cov_eq (de_var 2 (pv 2)) de_int) (ds_one (ds_ret (de_callE rfl G_fraction bA_fraction (hr.mono (by decide)) rfl TKt (da_cons (de_var 0 (pv 0)) (da_cons (de_var 1 (pv 1)) da_nil))))) ds_nil)
    (ds_one (ds_ret (de_if (dt_cmp (op_eqD hr.units) cov_eq (de_var 2 (pv 2)) de_int) (de_callE rfl G_over bA_over (hr.mono (by decide)) rfl TKt (da_cons (de_var 0 (pv 0)) (da_cons (de_var 1 (pv 1)) da_nil))) (de_callE rfl G_power_of bA_power_of (hr.mono (by decide)) rfl TKt (da_cons (de_var 0 (pv 0)) (da_cons (de_var 1 (pv 1)) da_nil))))))))
      (fun a oe C d pn e hz hf hec hh hd => suite_none (hit_inv E_Unfit.1 hec hh) hd hz fun hz => (ds_one (ds_ret (de_lst (da_cons de_str (da_cons (de_isErr E_Unfit.2.2.ex hz hf rfl T.n_isinstance (by decide +kernel) (pv 3) (pe_bltn rfl T.n_ValueError (by decide +kernel) rfl (by decide) (by decide)) (k_Unfit_ValueError T E_Unfit.1)) da_nil))))))
      (by intro a e ρ π; unfold onNone; cases e.a <;> first | rfl | (simp only [sRet, eLst, aCons, aNil, eC, eIsErr_ind, R.bind_ok]; (rcases eIsErr_or 3 true 0 (ρ.set 3 (some (.err 0))) π with h | h) <;> simp only [h, R.bind_ok, R.bind_bad] <;> rfl)))), hm, F⟩
def b_law_same (r : ON) : Sv :=
    (sSeq (sIf (tst (eIsi [.list, .tuple] (eVar 1))) (sSeq (sIf (tOr2 (tstB (eBin opNe (eIsi [.list] (eVar 0)) (eIsi [.list] (eVar 1)))) (tstB (eBin opNe (eIsi [.tuple] (eVar 0)) (eIsi [.tuple] (eVar 1))))) (sRet (eC (.bl false))) sNil)
    (sRet (eAnd (eBin opEq (eCall bLen (aCons (eVar 0) aNil)) (eCall bLen (aCons (eVar 1) aNil))) (eCall bAll (aCons (eLc [2, 3] (iZip (aCons (eVar 0) (aCons (eVar 1) aNil))) (vTup 2 (vCons (vName 2) (vCons (vName 3) vNil))) noTest (eCall r (aCons (eVar 2) (aCons (eVar 3) aNil)))) aNil))))) sNil)
    (sSeq (sIf (tOr2 (tstB (eBin opIsN (eVar 1) (eC .non))) (tst (eIsi [.bool, .str] (eVar 1)))) (sRet (eAnd (eBin opEq (eVar 0) (eVar 1)) (eAnd (eBin opEq (eIsi [.bool] (eVar 0)) (eIsi [.bool] (eVar 1))) (eBin opEq (eBin opIsN (eVar 0) (eC .non)) (eBin opIsN (eVar 1) (eC .non)))))) sNil)
    (sRet (eAnd (eIsi [.int] (eVar 0)) (eAnd (eNot (eIsi [.bool] (eVar 0))) (eBin opEq (eVar 0) (eVar 1)))))))
def f_law_same : Nat → ON
  | 0 => fun _ _ => .bad
  | k + 1 => runB 2 4 (b_law_same (f_law_same k))
theorem ok__law_same {P : Program} {wd : World} {w : Wd} {mg : Str → Option Value} {base : Heap} (T : Tx w mg) {ad : Addr} {fd : FuncData} (hm : mg "_law_same" = some (.ref ad)) (F : Fun w.K "_law_same" "_law_same" st_law_same ad fd) :
    ∀ k, Ent P wd w mg base "_law_same" st_law_same ad fd (1 + k) ["got", "goal"] (f_law_same k)
  | 0 => Ent.none hm F
  | k + 1 => by
    have SELF := ok__law_same (P := P) (wd := wd) (base := base) T hm F k
    refine ⟨fn_D F sc__law_same rfl rfl fun cdv A outer s H E hr => ?_, hm, F⟩
    have TK := takes_of (X := cxOf (L2.CX P wd) P wd w.K mg base N_law_same "_law_same" (defScope st_law_same) ad cdv A outer s H E) rfl rfl rfl rfl
    have PO := passes_of (X := cxOf (L2.CX P wd) P wd w.K mg base N_law_same "_law_same" (defScope st_law_same) ad cdv A outer s H E) rfl
    exact (ds_cons (ds_if (dt_tru rfl (de_isi2 rfl rfl T.n_isinstance (by decide +kernel) (de_var 1 (pv 1)) ⟨rfl, T.n_list, by decide +kernel, by decide, by decide⟩ ⟨rfl, T.n_tuple, by decide +kernel, by decide, by decide⟩)) (ds_cons (ds_if (PW.pt (dw_or (dt_cmp (op_neD hr.units) cov_ne (de_isi1 rfl rfl T.n_isinstance (by decide +kernel) (de_var 0 (pv 0)) ⟨rfl, T.n_list, by decide +kernel, by decide, by decide⟩) (de_isi1 rfl rfl T.n_isinstance (by decide +kernel) (de_var 1 (pv 1)) ⟨rfl, T.n_list, by decide +kernel, by decide, by decide⟩)) (dw_or1 (dt_cmp (op_neD hr.units) cov_ne (de_isi1 rfl rfl T.n_isinstance (by decide +kernel) (de_var 0 (pv 0)) ⟨rfl, T.n_tuple, by decide +kernel, by decide, by decide⟩) (de_isi1 rfl rfl T.n_isinstance (by decide +kernel) (de_var 1 (pv 1)) ⟨rfl, T.n_tuple, by decide +kernel, by decide, by decide⟩))))) (ds_one (ds_ret de_bl)) ds_nil)
    (ds_one (ds_ret (de_and rfl (de_cmp (op_eqD hr.units) cov_eq (de_callB callr_len cov_len rfl T.n_len (by decide +kernel) (da_cons (de_var 0 (pv 0)) da_nil)) (de_callB callr_len cov_len rfl T.n_len (by decide +kernel) (da_cons (de_var 1 (pv 1)) da_nil))) (de_one (de_callB (cr_all rfl) cov_all rfl T.n_all (by decide +kernel) (da_cons (de_lc rfl sc__law_same.nd (own := [("mine_so", 2), ("own", 3)]) (di_zip rfl rfl T.n_zip (da_cons (de_var 0 (pv 0)) (da_cons (de_var 1 (pv 1)) da_nil))) (blkOk_by (N := N_law_same) (sc := defScope st_law_same) (by decide +kernel)) (by decide) (fun _ _ _ _ _ => (dg_tup rfl rfl (dgs_cons (dg_name (i := 2) sc__law_same.nd rfl (by first | exact .inl rfl | exact .inr rfl)) (dgs_cons (dg_name (i := 3) sc__law_same.nd rfl (by first | exact .inl rfl | exact .inr rfl)) dgs_nil)))) (fun _ _ _ _ _ => dts_nil) (fun _ _ _ _ _ => (de_callE rfl SELF bA__law_same hr rfl takes0 (da_cons (de_var 2 (pv 2)) (da_cons (de_var 3 (pv 3)) da_nil))))) da_nil))))))) ds_nil)
    (ds_cons (ds_if (PW.pt (dw_or (dt_cmp op_isN cov_isN (de_var 1 (pv 1)) de_non) (dw_or1 (dt_tru rfl (de_isi2 rfl rfl T.n_isinstance (by decide +kernel) (de_var 1 (pv 1)) ⟨rfl, T.n_bool, by decide +kernel, by decide, by decide⟩ ⟨rfl, T.n_str, by decide +kernel, by decide, by decide⟩))))) (ds_one (ds_ret (de_and rfl (de_cmp (op_eqD hr.units) cov_eq (de_var 0 (pv 0)) (de_var 1 (pv 1))) (de_and rfl (de_cmp (op_eqD hr.units) cov_eq (de_isi1 rfl rfl T.n_isinstance (by decide +kernel) (de_var 0 (pv 0)) ⟨rfl, T.n_bool, by decide +kernel, by decide, by decide⟩) (de_isi1 rfl rfl T.n_isinstance (by decide +kernel) (de_var 1 (pv 1)) ⟨rfl, T.n_bool, by decide +kernel, by decide, by decide⟩)) (de_one (de_cmp (op_eqD hr.units) cov_eq (de_cmp op_isN cov_isN (de_var 0 (pv 0)) de_non) (de_cmp op_isN cov_isN (de_var 1 (pv 1)) de_non))))))) ds_nil)
    (ds_one (ds_ret (de_and rfl (de_isi1 rfl rfl T.n_isinstance (by decide +kernel) (de_var 0 (pv 0)) ⟨rfl, T.n_int, by decide +kernel, by decide, by decide⟩) (de_and rfl (de_not rfl (de_isi1 rfl rfl T.n_isinstance (by decide +kernel) (de_var 0 (pv 0)) ⟨rfl, T.n_bool, by decide +kernel, by decide, by decide⟩)) (de_one (de_cmp (op_eqD hr.units) cov_eq (de_var 0 (pv 0)) (de_var 1 (pv 1))))))))))
def b_is_number : Sv :=
    (sRet (eAnd (eIsi [.int] (eVar 0)) (eNot (eIsi [.bool] (eVar 0)))))
def f_is_number : ON := runB 1 1 b_is_number
theorem ok_is_number {P : Program} {wd : World} {w : Wd} {mg : Str → Option Value} {base : Heap} (T : Tx w mg) {ad : Addr} {fd : FuncData} (hm : mg "is_number" = some (.ref ad)) (F : Fun w.K "is_number" "is_number" st_is_number ad fd) :
    Ent P wd w mg base "is_number" st_is_number ad fd 1 ["thing"] f_is_number :=
  ⟨fn_D F sc_is_number rfl rfl fun cdv A outer s H E hr => by
    have TK := takes_of (X := cxOf (L2.CX P wd) P wd w.K mg base N_is_number "is_number" (defScope st_is_number) ad cdv A outer s H E) rfl rfl rfl rfl
    have PO := passes_of (X := cxOf (L2.CX P wd) P wd w.K mg base N_is_number "is_number" (defScope st_is_number) ad cdv A outer s H E) rfl
    exact (ds_one (ds_ret (de_and rfl (de_isi1 rfl rfl T.n_isinstance (by decide +kernel) (de_var 0 (pv 0)) ⟨rfl, T.n_int, by decide +kernel, by decide, by decide⟩) (de_one (de_not rfl (de_isi1 rfl rfl T.n_isinstance (by decide +kernel) (de_var 0 (pv 0)) ⟨rfl, T.n_bool, by decide +kernel, by decide, by decide⟩)))))), hm, F⟩
def b_is_tuple : Sv :=
    (sRet (eAnd (eIsi [.tuple] (eVar 0)) (eBin opEq (eCall bLen (aCons (eVar 0) aNil)) (eVar 1))))
def f_is_tuple : ON := runB 2 2 b_is_tuple
theorem ok_is_tuple {P : Program} {wd : World} {w : Wd} {mg : Str → Option Value} {base : Heap} (T : Tx w mg) {ad : Addr} {fd : FuncData} (hm : mg "is_tuple" = some (.ref ad)) (F : Fun w.K "is_tuple" "is_tuple" st_is_tuple ad fd) :
    Ent P wd w mg base "is_tuple" st_is_tuple ad fd 1 ["thing", "many"] f_is_tuple :=
  ⟨fn_D F sc_is_tuple rfl rfl fun cdv A outer s H E hr => by
    have TK := takes_of (X := cxOf (L2.CX P wd) P wd w.K mg base N_is_tuple "is_tuple" (defScope st_is_tuple) ad cdv A outer s H E) rfl rfl rfl rfl
    have PO := passes_of (X := cxOf (L2.CX P wd) P wd w.K mg base N_is_tuple "is_tuple" (defScope st_is_tuple) ad cdv A outer s H E) rfl
    exact (ds_one (ds_ret (de_and rfl (de_isi1 rfl rfl T.n_isinstance (by decide +kernel) (de_var 0 (pv 0)) ⟨rfl, T.n_tuple, by decide +kernel, by decide, by decide⟩) (de_one (de_cmp (op_eqD hr.units) cov_eq (de_callB callr_len cov_len rfl T.n_len (by decide +kernel) (da_cons (de_var 0 (pv 0)) da_nil)) (de_var 1 (pv 1))))))), hm, F⟩
def b_is_fraction : Sv :=
    (sSeq (sIf (tNot1 (tAnd2 (tst (eCall f_is_tuple (aCons (eVar 0) (aCons (eC (.int 2)) aNil)))) (tAnd2 (tst (eCall f_is_number (aCons (eBin opIx (eVar 0) (eC (.int 0))) aNil))) (tst (eCall f_is_number (aCons (eBin opIx (eVar 0) (eC (.int 1))) aNil)))))) (sRet (eC (.bl false))) sNil)
    (sRet (eAnd (eBin opGe (eBin opIx (eVar 0) (eC (.int 1))) (eC (.int 1))) (eBin opEq (eCall bGcd (aCons (eBin opIx (eVar 0) (eC (.int 0))) (aCons (eBin opIx (eVar 0) (eC (.int 1))) aNil))) (eC (.int 1))))))
def f_is_fraction : ON := runB 1 1 b_is_fraction
theorem ok_is_fraction {P : Program} {wd : World} {w : Wd} {mg : Str → Option Value} {base : Heap} (T : Tx w mg) {ad : Addr} {fd : FuncData} (hm : mg "is_fraction" = some (.ref ad)) (F : Fun w.K "is_fraction" "is_fraction" st_is_fraction ad fd) {a_is_tuple : Addr} {d_is_tuple : FuncData} (G_is_tuple : Ent P wd w mg base "is_tuple" st_is_tuple a_is_tuple d_is_tuple 1 ["thing", "many"] f_is_tuple) {a_is_number : Addr} {d_is_number : FuncData} (G_is_number : Ent P wd w mg base "is_number" st_is_number a_is_number d_is_number 1 ["thing"] f_is_number) :
    Ent P wd w mg base "is_fraction" st_is_fraction ad fd 2 ["thing"] f_is_fraction :=
  ⟨fn_D F sc_is_fraction rfl rfl fun cdv A outer s H E hr => by
    have TK := takes_of (X := cxOf (L2.CX P wd) P wd w.K mg base N_is_fraction "is_fraction" (defScope st_is_fraction) ad cdv A outer s H E) rfl rfl rfl rfl
    have PO := passes_of (X := cxOf (L2.CX P wd) P wd w.K mg base N_is_fraction "is_fraction" (defScope st_is_fraction) ad cdv A outer s H E) rfl
    exact (ds_cons (ds_if (dt_not (PW.pt (dw_and (dt_tru rfl (de_callE rfl G_is_tuple bA_is_tuple (hr.mono (by decide)) rfl TK (da_cons (de_var 0 (pv 0)) (da_cons de_int da_nil)))) (dw_and (dt_tru rfl (de_callE rfl G_is_number bA_is_number (hr.mono (by decide)) rfl TK (da_cons (de_ix rfl (de_var 0 (pv 0)) de_int) da_nil))) (dw_and1 (dt_tru rfl (de_callE rfl G_is_number bA_is_number (hr.mono (by decide)) rfl TK (da_cons (de_ix rfl (de_var 0 (pv 0)) de_int) da_nil)))))))) (ds_one (ds_ret de_bl)) ds_nil)
    (ds_one (ds_ret (de_and rfl (de_cmp op_ge (cov_cmpI _) (de_ix rfl (de_var 0 (pv 0)) de_int) de_int) (de_one (de_cmp (op_eqD hr.units) cov_eq (de_callBf cr_gcd cov_gcd rfl T.i_gcd (da_cons (de_ix rfl (de_var 0 (pv 0)) de_int) (da_cons (de_ix rfl (de_var 0 (pv 0)) de_int) da_nil))) de_int)))))), hm, F⟩
def b_is_less : Sv :=
    (sRet (eBin opLt (eBin opMul (eBin opIx (eVar 0) (eC (.int 0))) (eBin opIx (eVar 1) (eC (.int 1)))) (eBin opMul (eBin opIx (eVar 1) (eC (.int 0))) (eBin opIx (eVar 0) (eC (.int 1))))))
def f_is_less : ON := runB 2 2 b_is_less
theorem ok_is_less {P : Program} {wd : World} {w : Wd} {mg : Str → Option Value} {base : Heap} (T : Tx w mg) {ad : Addr} {fd : FuncData} (hm : mg "is_less" = some (.ref ad)) (F : Fun w.K "is_less" "is_less" st_is_less ad fd) :
    Ent P wd w mg base "is_less" st_is_less ad fd 1 ["x", "y"] f_is_less :=
  ⟨fn_D F sc_is_less rfl rfl fun cdv A outer s H E hr => by
    have TK := takes_of (X := cxOf (L2.CX P wd) P wd w.K mg base N_is_less "is_less" (defScope st_is_less) ad cdv A outer s H E) rfl rfl rfl rfl
    have PO := passes_of (X := cxOf (L2.CX P wd) P wd w.K mg base N_is_less "is_less" (defScope st_is_less) ad cdv A outer s H E) rfl
    exact (ds_one (ds_ret (de_cmp op_lt (cov_cmpI _) (de_op opr_mul cov_mul (de_ix rfl (de_var 0 (pv 0)) de_int) (de_ix rfl (de_var 1 (pv 1)) de_int)) (de_op opr_mul cov_mul (de_ix rfl (de_var 1 (pv 1)) de_int) (de_ix rfl (de_var 0 (pv 0)) de_int))))), hm, F⟩
def b_minus : Sv :=
    (sRet (eCall f_lowest (aCons (eBin opSub (eBin opMul (eBin opIx (eVar 0) (eC (.int 0))) (eBin opIx (eVar 1) (eC (.int 1)))) (eBin opMul (eBin opIx (eVar 1) (eC (.int 0))) (eBin opIx (eVar 0) (eC (.int 1))))) (aCons (eBin opMul (eBin opIx (eVar 0) (eC (.int 1))) (eBin opIx (eVar 1) (eC (.int 1)))) aNil))))
def f_minus : ON := runB 2 2 b_minus
theorem ok_minus {P : Program} {wd : World} {w : Wd} {mg : Str → Option Value} {base : Heap} (T : Tx w mg) {ad : Addr} {fd : FuncData} (hm : mg "minus" = some (.ref ad)) (F : Fun w.K "minus" "minus" st_minus ad fd) {a__lowest : Addr} {d__lowest : FuncData} (G__lowest : Ent P wd w mg base "_lowest" st_lowest a__lowest d__lowest 1 ["top", "bottom"] f_lowest) :
    Ent P wd w mg base "minus" st_minus ad fd 2 ["x", "y"] f_minus :=
  ⟨fn_D F sc_minus rfl rfl fun cdv A outer s H E hr => by
    have TK := takes_of (X := cxOf (L2.CX P wd) P wd w.K mg base N_minus "minus" (defScope st_minus) ad cdv A outer s H E) rfl rfl rfl rfl
    have PO := passes_of (X := cxOf (L2.CX P wd) P wd w.K mg base N_minus "minus" (defScope st_minus) ad cdv A outer s H E) rfl
    exact (ds_one (ds_ret (de_callE rfl G__lowest bA__lowest (hr.mono (by decide)) rfl TK (da_cons (de_op op_sub cov_sub (de_op opr_mul cov_mul (de_ix rfl (de_var 0 (pv 0)) de_int) (de_ix rfl (de_var 1 (pv 1)) de_int)) (de_op opr_mul cov_mul (de_ix rfl (de_var 1 (pv 1)) de_int) (de_ix rfl (de_var 0 (pv 0)) de_int))) (da_cons (de_op opr_mul cov_mul (de_ix rfl (de_var 0 (pv 0)) de_int) (de_ix rfl (de_var 1 (pv 1)) de_int)) da_nil))))), hm, F⟩
def b_plus : Sv :=
    (sSeq (sIf (tstB (eBin opEq (eBin opIx (eVar 0) (eC (.int 1))) (eBin opIx (eVar 1) (eC (.int 1))))) (sRet (eCall f_lowest (aCons (eBin opAdd (eBin opIx (eVar 0) (eC (.int 0))) (eBin opIx (eVar 1) (eC (.int 0)))) (aCons (eBin opIx (eVar 0) (eC (.int 1))) aNil)))) sNil)
    (sRet (eCall f_lowest (aCons (eBin opAdd (eBin opMul (eBin opIx (eVar 0) (eC (.int 0))) (eBin opIx (eVar 1) (eC (.int 1)))) (eBin opMul (eBin opIx (eVar 1) (eC (.int 0))) (eBin opIx (eVar 0) (eC (.int 1))))) (aCons (eBin opMul (eBin opIx (eVar 0) (eC (.int 1))) (eBin opIx (eVar 1) (eC (.int 1)))) aNil)))))
def f_plus : ON := runB 2 2 b_plus
theorem ok_plus {P : Program} {wd : World} {w : Wd} {mg : Str → Option Value} {base : Heap} (T : Tx w mg) {ad : Addr} {fd : FuncData} (hm : mg "plus" = some (.ref ad)) (F : Fun w.K "plus" "plus" st_plus ad fd) {a__lowest : Addr} {d__lowest : FuncData} (G__lowest : Ent P wd w mg base "_lowest" st_lowest a__lowest d__lowest 1 ["top", "bottom"] f_lowest) :
    Ent P wd w mg base "plus" st_plus ad fd 2 ["x", "y"] f_plus :=
  ⟨fn_D F sc_plus rfl rfl fun cdv A outer s H E hr => by
    have TK := takes_of (X := cxOf (L2.CX P wd) P wd w.K mg base N_plus "plus" (defScope st_plus) ad cdv A outer s H E) rfl rfl rfl rfl
    have PO := passes_of (X := cxOf (L2.CX P wd) P wd w.K mg base N_plus "plus" (defScope st_plus) ad cdv A outer s H E) rfl
    exact (ds_cons (ds_if (dt_cmp (op_eqD hr.units) cov_eq (de_ix rfl (de_var 0 (pv 0)) de_int) (de_ix rfl (de_var 1 (pv 1)) de_int)) (ds_one (ds_ret (de_callE rfl G__lowest bA__lowest (hr.mono (by decide)) rfl TK (da_cons (de_op opr_add cov_add (de_ix rfl (de_var 0 (pv 0)) de_int) (de_ix rfl (de_var 1 (pv 1)) de_int)) (da_cons (de_ix rfl (de_var 0 (pv 0)) de_int) da_nil))))) ds_nil)
    (ds_one (ds_ret (de_callE rfl G__lowest bA__lowest (hr.mono (by decide)) rfl TK (da_cons (de_op opr_add cov_add (de_op opr_mul cov_mul (de_ix rfl (de_var 0 (pv 0)) de_int) (de_ix rfl (de_var 1 (pv 1)) de_int)) (de_op opr_mul cov_mul (de_ix rfl (de_var 1 (pv 1)) de_int) (de_ix rfl (de_var 0 (pv 0)) de_int))) (da_cons (de_op opr_mul cov_mul (de_ix rfl (de_var 0 (pv 0)) de_int) (de_ix rfl (de_var 1 (pv 1)) de_int)) da_nil)))))), hm, F⟩
def b_sign_of : Sv :=
    (sSeq (sIf (tstB (eBin opEq (eBin opIx (eVar 0) (eC (.int 0))) (eC (.int 0)))) (sRet (eC (.int 0))) sNil)
    (sRet (eIf (tstB (eBin opGt (eBin opIx (eVar 0) (eC (.int 0))) (eC (.int 0)))) (eC (.int 1)) (eUn opNeg (eC (.int 1))))))
def f_sign_of : ON := runB 1 1 b_sign_of
theorem ok_sign_of {P : Program} {wd : World} {w : Wd} {mg : Str → Option Value} {base : Heap} (T : Tx w mg) {ad : Addr} {fd : FuncData} (hm : mg "sign_of" = some (.ref ad)) (F : Fun w.K "sign_of" "sign_of" st_sign_of ad fd) :
    Ent P wd w mg base "sign_of" st_sign_of ad fd 1 ["x"] f_sign_of :=
  ⟨fn_D F sc_sign_of rfl rfl fun cdv A outer s H E hr => by
    have TK := takes_of (X := cxOf (L2.CX P wd) P wd w.K mg base N_sign_of "sign_of" (defScope st_sign_of) ad cdv A outer s H E) rfl rfl rfl rfl
    have PO := passes_of (X := cxOf (L2.CX P wd) P wd w.K mg base N_sign_of "sign_of" (defScope st_sign_of) ad cdv A outer s H E) rfl
    exact (ds_cons (ds_if (dt_cmp (op_eqD hr.units) cov_eq (de_ix rfl (de_var 0 (pv 0)) de_int) de_int) (ds_one (ds_ret de_int)) ds_nil)
    (ds_one (ds_ret (de_if (dt_cmp op_gt (cov_cmpI _) (de_ix rfl (de_var 0 (pv 0)) de_int) de_int) de_int (de_un un_neg cov_neg de_int))))), hm, F⟩
def b_times : Sv :=
    (sRet (eCall f_lowest (aCons (eBin opMul (eBin opIx (eVar 0) (eC (.int 0))) (eBin opIx (eVar 1) (eC (.int 0)))) (aCons (eBin opMul (eBin opIx (eVar 0) (eC (.int 1))) (eBin opIx (eVar 1) (eC (.int 1)))) aNil))))
def f_times : ON := runB 2 2 b_times
theorem ok_times {P : Program} {wd : World} {w : Wd} {mg : Str → Option Value} {base : Heap} (T : Tx w mg) {ad : Addr} {fd : FuncData} (hm : mg "times" = some (.ref ad)) (F : Fun w.K "times" "times" st_times ad fd) {a__lowest : Addr} {d__lowest : FuncData} (G__lowest : Ent P wd w mg base "_lowest" st_lowest a__lowest d__lowest 1 ["top", "bottom"] f_lowest) :
    Ent P wd w mg base "times" st_times ad fd 2 ["x", "y"] f_times :=
  ⟨fn_D F sc_times rfl rfl fun cdv A outer s H E hr => by
    have TK := takes_of (X := cxOf (L2.CX P wd) P wd w.K mg base N_times "times" (defScope st_times) ad cdv A outer s H E) rfl rfl rfl rfl
    have PO := passes_of (X := cxOf (L2.CX P wd) P wd w.K mg base N_times "times" (defScope st_times) ad cdv A outer s H E) rfl
    exact (ds_one (ds_ret (de_callE rfl G__lowest bA__lowest (hr.mono (by decide)) rfl TK (da_cons (de_op opr_mul cov_mul (de_ix rfl (de_var 0 (pv 0)) de_int) (de_ix rfl (de_var 1 (pv 1)) de_int)) (da_cons (de_op opr_mul cov_mul (de_ix rfl (de_var 0 (pv 0)) de_int) (de_ix rfl (de_var 1 (pv 1)) de_int)) da_nil))))), hm, F⟩
def b_whole : Sv :=
    (sRet (eTup (aCons (eVar 0) (aCons (eC (.int 1)) aNil))))
def f_whole : ON := runB 1 1 b_whole
theorem ok_whole {P : Program} {wd : World} {w : Wd} {mg : Str → Option Value} {base : Heap} (T : Tx w mg) {ad : Addr} {fd : FuncData} (hm : mg "whole" = some (.ref ad)) (F : Fun w.K "whole" "whole" st_whole ad fd) :
    Ent P wd w mg base "whole" st_whole ad fd 1 ["number"] f_whole :=
  ⟨fn_D F sc_whole rfl rfl fun cdv A outer s H E hr => by
    have TK := takes_of (X := cxOf (L2.CX P wd) P wd w.K mg base N_whole "whole" (defScope st_whole) ad cdv A outer s H E) rfl rfl rfl rfl
    have PO := passes_of (X := cxOf (L2.CX P wd) P wd w.K mg base N_whole "whole" (defScope st_whole) ad cdv A outer s H E) rfl
    exact (ds_one (ds_ret (de_tup (da_cons (de_var 0 (pv 0)) (da_cons de_int da_nil))))), hm, F⟩
def b_law_by_hand_right : Sv :=
    (sSeq (sSet 0 (eLst (aCons (eCall f_fraction (aCons (eC (.int 6)) (aCons (eUn opNeg (eC (.int 4))) aNil))) (aCons (eCall f_fraction (aCons (eC (.int 0)) (aCons (eUn opNeg (eC (.int 7))) aNil))) (aCons (eCall f_fraction (aCons (eUn opNeg (eC (.int 9))) (aCons (eUn opNeg (eC (.int 6))) aNil))) (aCons (eCall f_fraction (aCons (eBin opPow (eC (.int 10)) (eC (.int 12))) (aCons (eBin opPow (eC (.int 10)) (eC (.int 6))) aNil))) (aCons (eCall f_fraction (aCons (eUn opNeg (eC (.int 1))) (aCons (eC (.int 2)) aNil))) aNil)))))))
    (sSeq (sSet 1 (eLst (aCons (eTup (aCons (eUn opNeg (eC (.int 3))) (aCons (eC (.int 2)) aNil))) (aCons (eTup (aCons (eC (.int 0)) (aCons (eC (.int 1)) aNil))) (aCons (eTup (aCons (eC (.int 3)) (aCons (eC (.int 2)) aNil))) (aCons (eTup (aCons (eC (.int 1000000)) (aCons (eC (.int 1)) aNil))) (aCons (eTup (aCons (eUn opNeg (eC (.int 1))) (aCons (eC (.int 2)) aNil))) aNil)))))))
    (sSeq (sSet 0 (eBin opAdd (eVar 0) (eLst (aCons (eCall f_whole (aCons (eUn opNeg (eC (.int 3))) aNil)) (aCons (eCall f_whole (aCons (eC (.int 0)) aNil)) (aCons (eCall f_plus (aCons (eTup (aCons (eC (.int 1)) (aCons (eC (.int 2)) aNil))) (aCons (eTup (aCons (eUn opNeg (eC (.int 1))) (aCons (eC (.int 3)) aNil))) aNil))) (aCons (eCall f_plus (aCons (eTup (aCons (eC (.int 1)) (aCons (eC (.int 2)) aNil))) (aCons (eTup (aCons (eUn opNeg (eC (.int 1))) (aCons (eC (.int 2)) aNil))) aNil))) (aCons (eCall f_minus (aCons (eTup (aCons (eC (.int 1)) (aCons (eC (.int 6)) aNil))) (aCons (eTup (aCons (eC (.int 1)) (aCons (eC (.int 2)) aNil))) aNil))) aNil))))))))
    (sSeq (sSet 1 (eBin opAdd (eVar 1) (eLst (aCons (eTup (aCons (eUn opNeg (eC (.int 3))) (aCons (eC (.int 1)) aNil))) (aCons (eTup (aCons (eC (.int 0)) (aCons (eC (.int 1)) aNil))) (aCons (eTup (aCons (eC (.int 1)) (aCons (eC (.int 6)) aNil))) (aCons (eTup (aCons (eC (.int 0)) (aCons (eC (.int 1)) aNil))) (aCons (eTup (aCons (eUn opNeg (eC (.int 1))) (aCons (eC (.int 3)) aNil))) aNil))))))))
    (sSeq (sSet 0 (eBin opAdd (eVar 0) (eLst (aCons (eCall f_times (aCons (eTup (aCons (eUn opNeg (eC (.int 2))) (aCons (eC (.int 3)) aNil))) (aCons (eTup (aCons (eC (.int 3)) (aCons (eC (.int 4)) aNil))) aNil))) (aCons (eCall f_times (aCons (eTup (aCons (eC (.int 0)) (aCons (eC (.int 1)) aNil))) (aCons (eTup (aCons (eC (.int 5)) (aCons (eC (.int 7)) aNil))) aNil))) (aCons (eCall f_over (aCons (eTup (aCons (eC (.int 1)) (aCons (eC (.int 2)) aNil))) (aCons (eTup (aCons (eUn opNeg (eC (.int 3))) (aCons (eC (.int 4)) aNil))) aNil))) (aCons (eCall f_over (aCons (eTup (aCons (eC (.int 0)) (aCons (eC (.int 1)) aNil))) (aCons (eTup (aCons (eUn opNeg (eC (.int 3))) (aCons (eC (.int 4)) aNil))) aNil))) aNil)))))))
    (sSeq (sSet 1 (eBin opAdd (eVar 1) (eLst (aCons (eTup (aCons (eUn opNeg (eC (.int 1))) (aCons (eC (.int 2)) aNil))) (aCons (eTup (aCons (eC (.int 0)) (aCons (eC (.int 1)) aNil))) (aCons (eTup (aCons (eUn opNeg (eC (.int 2))) (aCons (eC (.int 3)) aNil))) (aCons (eTup (aCons (eC (.int 0)) (aCons (eC (.int 1)) aNil))) aNil)))))))
    (sSeq (sSet 0 (eBin opAdd (eVar 0) (eLst (aCons (eCall f_power_of (aCons (eTup (aCons (eUn opNeg (eC (.int 2))) (aCons (eC (.int 3)) aNil))) (aCons (eUn opNeg (eC (.int 3))) aNil))) (aCons (eCall f_power_of (aCons (eTup (aCons (eC (.int 0)) (aCons (eC (.int 1)) aNil))) (aCons (eC (.int 0)) aNil))) (aCons (eCall f_power_of (aCons (eTup (aCons (eC (.int 0)) (aCons (eC (.int 1)) aNil))) (aCons (eC (.int 5)) aNil))) (aCons (eCall f_power_of (aCons (eTup (aCons (eUn opNeg (eC (.int 1))) (aCons (eC (.int 1)) aNil))) (aCons (eUn opNeg (eC (.int 59))) aNil))) (aCons (eCall f_power_of (aCons (eTup (aCons (eC (.int 7)) (aCons (eC (.int 2)) aNil))) (aCons (eC (.int 1)) aNil))) aNil))))))))
    (sSeq (sSet 1 (eBin opAdd (eVar 1) (eLst (aCons (eTup (aCons (eUn opNeg (eC (.int 27))) (aCons (eC (.int 8)) aNil))) (aCons (eTup (aCons (eC (.int 1)) (aCons (eC (.int 1)) aNil))) (aCons (eTup (aCons (eC (.int 0)) (aCons (eC (.int 1)) aNil))) (aCons (eTup (aCons (eUn opNeg (eC (.int 1))) (aCons (eC (.int 1)) aNil))) (aCons (eTup (aCons (eC (.int 7)) (aCons (eC (.int 2)) aNil))) aNil))))))))
    (sSeq (sSet 0 (eBin opAdd (eVar 0) (eLst (aCons (eCall f_power_of (aCons (eTup (aCons (eC (.int 1)) (aCons (eC (.int 2)) aNil))) (aCons (eC (.int 60)) aNil))) (aCons (eCall f_power_of (aCons (eTup (aCons (eC (.int 1)) (aCons (eC (.int 2)) aNil))) (aCons (eUn opNeg (eC (.int 60))) aNil))) (aCons (eCall f_power_of (aCons (eTup (aCons (eUn opNeg (eC (.int 5))) (aCons (eC (.int 3)) aNil))) (aCons (eC (.int 0)) aNil))) aNil))))))
    (sSeq (sSet 1 (eBin opAdd (eVar 1) (eLst (aCons (eTup (aCons (eC (.int 1)) (aCons (eC (.int 1152921504606846976)) aNil))) (aCons (eTup (aCons (eC (.int 1152921504606846976)) (aCons (eC (.int 1)) aNil))) (aCons (eTup (aCons (eC (.int 1)) (aCons (eC (.int 1)) aNil))) aNil))))))
    (sSeq (sSet 0 (eBin opAdd (eVar 0) (eLst (aCons (eCall f_is_less (aCons (eTup (aCons (eUn opNeg (eC (.int 1))) (aCons (eC (.int 2)) aNil))) (aCons (eTup (aCons (eUn opNeg (eC (.int 1))) (aCons (eC (.int 3)) aNil))) aNil))) (aCons (eCall f_is_less (aCons (eTup (aCons (eC (.int 1)) (aCons (eC (.int 3)) aNil))) (aCons (eTup (aCons (eC (.int 1)) (aCons (eC (.int 3)) aNil))) aNil))) (aCons (eCall f_is_less (aCons (eTup (aCons (eC (.int 2)) (aCons (eC (.int 1)) aNil))) (aCons (eTup (aCons (eC (.int 1)) (aCons (eC (.int 3)) aNil))) aNil))) (aCons (eCall f_is_less (aCons (eTup (aCons (eUn opNeg (eC (.int 1))) (aCons (eC (.int 1)) aNil))) (aCons (eTup (aCons (eC (.int 0)) (aCons (eC (.int 1)) aNil))) aNil))) aNil)))))))
    (sSeq (sSet 1 (eBin opAdd (eVar 1) (eLst (aCons (eC (.bl true)) (aCons (eC (.bl false)) (aCons (eC (.bl false)) (aCons (eC (.bl true)) aNil)))))))
    (sSeq (sSet 0 (eBin opAdd (eVar 0) (eLst (aCons (eCall f_sign_of (aCons (eTup (aCons (eUn opNeg (eC (.int 1))) (aCons (eC (.int 3)) aNil))) aNil)) (aCons (eCall f_sign_of (aCons (eTup (aCons (eC (.int 0)) (aCons (eC (.int 1)) aNil))) aNil)) (aCons (eCall f_sign_of (aCons (eTup (aCons (eC (.int 7)) (aCons (eC (.int 2)) aNil))) aNil)) aNil))))))
    (sSeq (sSet 1 (eBin opAdd (eVar 1) (eLst (aCons (eUn opNeg (eC (.int 1))) (aCons (eC (.int 0)) (aCons (eC (.int 1)) aNil))))))
    (sSeq (sSet 0 (eBin opAdd (eVar 0) (eLst (aCons (eCallK f_fraction (pick 0 2 [1, 0]) aNil (aCons (eC (.int 4)) (aCons (eC (.int 2)) aNil))) (aCons (eCallK f_whole (pick 0 1 [0]) aNil (aCons (eC (.int 8)) aNil)) (aCons (eCallK f_plus (pick 0 2 [1, 0]) aNil (aCons (eTup (aCons (eC (.int 1)) (aCons (eC (.int 3)) aNil))) (aCons (eLst (aCons (eC (.int 1)) (aCons (eC (.int 2)) aNil))) aNil))) (aCons (eCallK f_minus (pick 0 2 [1, 0]) aNil (aCons (eLst (aCons (eC (.int 1)) (aCons (eC (.int 2)) aNil))) (aCons (eLst (aCons (eC (.int 0)) (aCons (eC (.int 1)) aNil))) aNil))) aNil)))))))
    (sSeq (sSet 1 (eBin opAdd (eVar 1) (eLst (aCons (eTup (aCons (eC (.int 1)) (aCons (eC (.int 2)) aNil))) (aCons (eTup (aCons (eC (.int 8)) (aCons (eC (.int 1)) aNil))) (aCons (eTup (aCons (eC (.int 5)) (aCons (eC (.int 6)) aNil))) (aCons (eTup (aCons (eUn opNeg (eC (.int 1))) (aCons (eC (.int 2)) aNil))) aNil)))))))
    (sSeq (sSet 0 (eBin opAdd (eVar 0) (eLst (aCons (eCall f_times (aCons (eLst (aCons (eC (.int 2)) (aCons (eC (.int 3)) aNil))) (aCons (eLst (aCons (eC (.int 3)) (aCons (eC (.int 2)) aNil))) aNil))) (aCons (eCallK f_over (pick 0 2 [1, 0]) aNil (aCons (eLst (aCons (eC (.int 2)) (aCons (eC (.int 3)) aNil))) (aCons (eLst (aCons (eC (.int 1)) (aCons (eC (.int 3)) aNil))) aNil))) (aCons (eCallK f_power_of (pick 0 2 [1, 0]) aNil (aCons (eC (.int 2)) (aCons (eLst (aCons (eC (.int 3)) (aCons (eC (.int 5)) aNil))) aNil))) (aCons (eCallK f_is_less (pick 0 2 [1, 0]) aNil (aCons (eLst (aCons (eC (.int 1)) (aCons (eC (.int 2)) aNil))) (aCons (eLst (aCons (eC (.int 1)) (aCons (eC (.int 3)) aNil))) aNil))) aNil)))))))
    (sSeq (sSet 1 (eBin opAdd (eVar 1) (eLst (aCons (eTup (aCons (eC (.int 1)) (aCons (eC (.int 1)) aNil))) (aCons (eTup (aCons (eC (.int 1)) (aCons (eC (.int 2)) aNil))) (aCons (eTup (aCons (eC (.int 9)) (aCons (eC (.int 25)) aNil))) (aCons (eC (.bl true)) aNil)))))))
    (sSeq (sSet 0 (eBin opAdd (eVar 0) (eLst (aCons (eCallK f_sign_of (pick 0 1 [0]) aNil (aCons (eLst (aCons (eUn opNeg (eC (.int 1))) (aCons (eC (.int 2)) aNil))) aNil)) (aCons (eCallK f_is_fraction (pick 0 1 [0]) aNil (aCons (eTup (aCons (eC (.int 1)) (aCons (eC (.int 2)) aNil))) aNil)) aNil)))))
    (sSeq (sSet 1 (eBin opAdd (eVar 1) (eLst (aCons (eUn opNeg (eC (.int 1))) (aCons (eC (.bl true)) aNil)))))
    (sSeq (sSet 0 (eBin opAdd (eVar 0) (eLst (aCons (eCall f_law_heard (aCons (eC (.int 3)) (aCons (eC (.int 0)) (aCons (eC (.int 0)) aNil)))) (aCons (eCall f_law_heard (aCons (eC (.int 0)) (aCons (eC (.int 0)) (aCons (eC (.int 0)) aNil)))) (aCons (eCall f_law_heard (aCons (eTup (aCons (eC (.int 1)) (aCons (eC (.int 2)) aNil))) (aCons (eTup (aCons (eC (.int 0)) (aCons (eC (.int 1)) aNil))) (aCons (eC (.int 1)) aNil)))) (aCons (eCall f_law_heard (aCons (eTup (aCons (eC (.int 0)) (aCons (eC (.int 1)) aNil))) (aCons (eTup (aCons (eC (.int 0)) (aCons (eC (.int 1)) aNil))) (aCons (eC (.int 1)) aNil)))) aNil)))))))
    (sSeq (sSet 0 (eBin opAdd (eVar 0) (eLst (aCons (eCall f_law_heard (aCons (eTup (aCons (eC (.int 0)) (aCons (eC (.int 1)) aNil))) (aCons (eUn opNeg (eC (.int 1))) (aCons (eC (.int 2)) aNil)))) (aCons (eCall f_law_heard (aCons (eLst (aCons (eC (.int 0)) (aCons (eC (.int 1)) aNil))) (aCons (eUn opNeg (eC (.int 60))) (aCons (eC (.int 2)) aNil)))) aNil)))))
    (sSeq (sSet 1 (eBin opAdd (eVar 1) (eBin opMul (eLst (aCons (eLst (aCons (eC (.str ("unfit" : Str))) (aCons (eC (.bl true)) aNil))) aNil)) (eC (.int 6)))))
    (sSeq (sSet 2 (eLst (aCons (eTup (aCons (eC (.int 0)) (aCons (eC (.int 1)) aNil))) (aCons (eTup (aCons (eC (.int 1)) (aCons (eC (.int 1)) aNil))) (aCons (eTup (aCons (eUn opNeg (eC (.int 3))) (aCons (eC (.int 2)) aNil))) (aCons (eTup (aCons (eC (.int 2)) (aCons (eC (.int 3)) aNil))) (aCons (eTup (aCons (eBin opPow (eC (.int 10)) (eC (.int 9))) (aCons (eC (.int 7)) aNil))) aNil)))))))
    (sSeq (sSet 3 (eLst (aCons (eTup (aCons (eC (.int 0)) (aCons (eC (.int 2)) aNil))) (aCons (eTup (aCons (eC (.int 2)) (aCons (eC (.int 4)) aNil))) (aCons (eTup (aCons (eC (.int 1)) (aCons (eC (.int 0)) aNil))) (aCons (eTup (aCons (eC (.int 1)) (aCons (eUn opNeg (eC (.int 1))) aNil))) (aCons (eTup (aCons (eUn opNeg (eC (.int 2))) (aCons (eUn opNeg (eC (.int 3))) aNil))) (aCons (eTup (aCons (eC (.bl true)) (aCons (eC (.int 1)) aNil))) (aCons (eTup (aCons (eC (.int 1)) (aCons (eC (.bl true)) aNil))) (aCons (eLst (aCons (eC (.int 1)) (aCons (eC (.int 2)) aNil))) (aCons (eTup (aCons (eC (.int 1)) aNil)) (aCons (eTup (aCons (eC (.int 1)) (aCons (eC (.int 2)) (aCons (eC (.int 3)) aNil)))) (aCons (eTup aNil) (aCons (eC .non) (aCons (eC (.str ("a" : Str))) (aCons (eC (.int 0)) (aCons (eC (.int 1)) (aCons (eTup (aCons (eC (.str ("1" : Str))) (aCons (eC (.int 2)) aNil))) aNil))))))))))))))))))
    (sSeq (sSet 0 (eBin opAdd (eBin opAdd (eVar 0) (eLc [4] (iSeq (eBin opAdd (eVar 2) (eVar 3))) (vName 4) noTest (eCall f_is_fraction (aCons (eVar 4) aNil)))) (eLst (aCons (eCall f_is_fraction (aCons (eTup (aCons (eTup (aCons (eC (.int 1)) (aCons (eC (.int 2)) aNil))) (aCons (eC (.int 1)) aNil))) aNil)) (aCons (eCall f_is_fraction (aCons (eTup (aCons (eC (.int 1)) (aCons (eTup (aCons (eC (.int 1)) (aCons (eC (.int 1)) aNil))) aNil))) aNil)) (aCons (eCall f_is_fraction (aCons (eTup (aCons (eC (.int 0)) (aCons (eC (.int 0)) aNil))) aNil)) aNil))))))
    (sSeq (sSet 1 (eBin opAdd (eBin opAdd (eBin opAdd (eVar 1) (eBin opMul (eLst (aCons (eC (.bl true)) aNil)) (eC (.int 5)))) (eBin opMul (eLst (aCons (eC (.bl false)) aNil)) (eC (.int 16)))) (eLst (aCons (eC (.bl false)) (aCons (eC (.bl false)) (aCons (eC (.bl false)) aNil))))))
    (sRet (eCall (f_law_same 40) (aCons (eVar 0) (aCons (eVar 1) aNil)))))))))))))))))))))))))))))))
def f_law_by_hand_right : ON := runB 0 5 b_law_by_hand_right
theorem ok__law_by_hand_right {P : Program} {wd : World} {w : Wd} {mg : Str → Option Value} {base : Heap} (T : Tx w mg) {ad : Addr} {fd : FuncData} (hm : mg "_law_by_hand_right" = some (.ref ad)) (F : Fun w.K "_law_by_hand_right" "_law_by_hand_right" st_law_by_hand_right ad fd) {a_fraction : Addr} {d_fraction : FuncData} (G_fraction : Ent P wd w mg base "fraction" st_fraction a_fraction d_fraction 2 ["top", "bottom"] f_fraction) {a_whole : Addr} {d_whole : FuncData} (G_whole : Ent P wd w mg base "whole" st_whole a_whole d_whole 1 ["number"] f_whole) {a_plus : Addr} {d_plus : FuncData} (G_plus : Ent P wd w mg base "plus" st_plus a_plus d_plus 2 ["x", "y"] f_plus) {a_minus : Addr} {d_minus : FuncData} (G_minus : Ent P wd w mg base "minus" st_minus a_minus d_minus 2 ["x", "y"] f_minus) {a_times : Addr} {d_times : FuncData} (G_times : Ent P wd w mg base "times" st_times a_times d_times 2 ["x", "y"] f_times) {a_over : Addr} {d_over : FuncData} (G_over : Ent P wd w mg base "over" st_over a_over d_over 3 ["x", "y"] f_over) {a_power_of : Addr} {d_power_of : FuncData} (G_power_of : Ent P wd w mg base "power_of" st_power_of a_power_of d_power_of 3 ["x", "many"] f_power_of) {a_is_less : Addr} {d_is_less : FuncData} (G_is_less : Ent P wd w mg base "is_less" st_is_less a_is_less d_is_less 1 ["x", "y"] f_is_less) {a_sign_of : Addr} {d_sign_of : FuncData} (G_sign_of : Ent P wd w mg base "sign_of" st_sign_of a_sign_of d_sign_of 1 ["x"] f_sign_of) {a_is_fraction : Addr} {d_is_fraction : FuncData} (G_is_fraction : Ent P wd w mg base "is_fraction" st_is_fraction a_is_fraction d_is_fraction 2 ["thing"] f_is_fraction) {a__law_heard : Addr} {d__law_heard : FuncData} (G__law_heard : Ent P wd w mg base "_law_heard" st_law_heard a__law_heard d__law_heard 4 ["far", "near", "way_so"] f_law_heard) {a__law_same : Addr} {d__law_same : FuncData} (G__law_same : Ent P wd w mg base "_law_same" st_law_same a__law_same d__law_same 41 ["got", "goal"] (f_law_same 40)) :
    Ent P wd w mg base "_law_by_hand_right" st_law_by_hand_right ad fd 42 [] f_law_by_hand_right :=
  ⟨fn_D F sc__law_by_hand_right rfl rfl fun cdv A outer s H E hr => by
    have TK := takes_of (X := cxOf (L2.CX P wd) P wd w.K mg base N_law_by_hand_right "_law_by_hand_right" (defScope st_law_by_hand_right) ad cdv A outer s H E) rfl rfl rfl rfl
    have PO := passes_of (X := cxOf (L2.CX P wd) P wd w.K mg base N_law_by_hand_right "_law_by_hand_right" (defScope st_law_by_hand_right) ad cdv A outer s H E) rfl
    exact (ds_cons (ds_set (i := 0) sc__law_by_hand_right.nd rfl (by first | exact .inl rfl | exact .inr rfl) (de_lst (da_cons (de_callE rfl G_fraction bA_fraction (hr.mono (by decide)) rfl TK (da_cons de_int (da_cons (de_un un_neg cov_neg de_int) da_nil))) (da_cons (de_callE rfl G_fraction bA_fraction (hr.mono (by decide)) rfl TK (da_cons de_int (da_cons (de_un un_neg cov_neg de_int) da_nil))) (da_cons (de_callE rfl G_fraction bA_fraction (hr.mono (by decide)) rfl TK (da_cons (de_un un_neg cov_neg de_int) (da_cons (de_un un_neg cov_neg de_int) da_nil))) (da_cons (de_callE rfl G_fraction bA_fraction (hr.mono (by decide)) rfl TK (da_cons (de_op op_pow cov_pow de_int de_int) (da_cons (de_op op_pow cov_pow de_int de_int) da_nil))) (da_cons (de_callE rfl G_fraction bA_fraction (hr.mono (by decide)) rfl TK (da_cons (de_un un_neg cov_neg de_int) (da_cons de_int da_nil))) da_nil)))))))
    (ds_cons (ds_set (i := 1) sc__law_by_hand_right.nd rfl (by first | exact .inl rfl | exact .inr rfl) (de_lst (da_cons (de_tup (da_cons (de_un un_neg cov_neg de_int) (da_cons de_int da_nil))) (da_cons (de_tup (da_cons de_int (da_cons de_int da_nil))) (da_cons (de_tup (da_cons de_int (da_cons de_int da_nil))) (da_cons (de_tup (da_cons de_int (da_cons de_int da_nil))) (da_cons (de_tup (da_cons (de_un un_neg cov_neg de_int) (da_cons de_int da_nil))) da_nil)))))))
    (ds_cons (ds_set (i := 0) sc__law_by_hand_right.nd rfl (by first | exact .inl rfl | exact .inr rfl) (de_op opr_add cov_add (de_var 0 (pv 0)) (de_lst (da_cons (de_callE rfl G_whole bA_whole (hr.mono (by decide)) rfl TK (da_cons (de_un un_neg cov_neg de_int) da_nil)) (da_cons (de_callE rfl G_whole bA_whole (hr.mono (by decide)) rfl TK (da_cons de_int da_nil)) (da_cons (de_callE rfl G_plus bA_plus (hr.mono (by decide)) rfl TK (da_cons (de_tup (da_cons de_int (da_cons de_int da_nil))) (da_cons (de_tup (da_cons (de_un un_neg cov_neg de_int) (da_cons de_int da_nil))) da_nil))) (da_cons (de_callE rfl G_plus bA_plus (hr.mono (by decide)) rfl TK (da_cons (de_tup (da_cons de_int (da_cons de_int da_nil))) (da_cons (de_tup (da_cons (de_un un_neg cov_neg de_int) (da_cons de_int da_nil))) da_nil))) (da_cons (de_callE rfl G_minus bA_minus (hr.mono (by decide)) rfl TK (da_cons (de_tup (da_cons de_int (da_cons de_int da_nil))) (da_cons (de_tup (da_cons de_int (da_cons de_int da_nil))) da_nil))) da_nil))))))))
    (ds_cons (ds_set (i := 1) sc__law_by_hand_right.nd rfl (by first | exact .inl rfl | exact .inr rfl) (de_op opr_add cov_add (de_var 1 (pv 1)) (de_lst (da_cons (de_tup (da_cons (de_un un_neg cov_neg de_int) (da_cons de_int da_nil))) (da_cons (de_tup (da_cons de_int (da_cons de_int da_nil))) (da_cons (de_tup (da_cons de_int (da_cons de_int da_nil))) (da_cons (de_tup (da_cons de_int (da_cons de_int da_nil))) (da_cons (de_tup (da_cons (de_un un_neg cov_neg de_int) (da_cons de_int da_nil))) da_nil))))))))
    (ds_cons (ds_set (i := 0) sc__law_by_hand_right.nd rfl (by first | exact .inl rfl | exact .inr rfl) (de_op opr_add cov_add (de_var 0 (pv 0)) (de_lst (da_cons (de_callE rfl G_times bA_times (hr.mono (by decide)) rfl TK (da_cons (de_tup (da_cons (de_un un_neg cov_neg de_int) (da_cons de_int da_nil))) (da_cons (de_tup (da_cons de_int (da_cons de_int da_nil))) da_nil))) (da_cons (de_callE rfl G_times bA_times (hr.mono (by decide)) rfl TK (da_cons (de_tup (da_cons de_int (da_cons de_int da_nil))) (da_cons (de_tup (da_cons de_int (da_cons de_int da_nil))) da_nil))) (da_cons (de_callE rfl G_over bA_over (hr.mono (by decide)) rfl TK (da_cons (de_tup (da_cons de_int (da_cons de_int da_nil))) (da_cons (de_tup (da_cons (de_un un_neg cov_neg de_int) (da_cons de_int da_nil))) da_nil))) (da_cons (de_callE rfl G_over bA_over (hr.mono (by decide)) rfl TK (da_cons (de_tup (da_cons de_int (da_cons de_int da_nil))) (da_cons (de_tup (da_cons (de_un un_neg cov_neg de_int) (da_cons de_int da_nil))) da_nil))) da_nil)))))))
    (ds_cons (ds_set (i := 1) sc__law_by_hand_right.nd rfl (by first | exact .inl rfl | exact .inr rfl) (de_op opr_add cov_add (de_var 1 (pv 1)) (de_lst (da_cons (de_tup (da_cons (de_un un_neg cov_neg de_int) (da_cons de_int da_nil))) (da_cons (de_tup (da_cons de_int (da_cons de_int da_nil))) (da_cons (de_tup (da_cons (de_un un_neg cov_neg de_int) (da_cons de_int da_nil))) (da_cons (de_tup (da_cons de_int (da_cons de_int da_nil))) da_nil)))))))
    (ds_cons (ds_set (i := 0) sc__law_by_hand_right.nd rfl (by first | exact .inl rfl | exact .inr rfl) (de_op opr_add cov_add (de_var 0 (pv 0)) (de_lst (da_cons (de_callE rfl G_power_of bA_power_of (hr.mono (by decide)) rfl TK (da_cons (de_tup (da_cons (de_un un_neg cov_neg de_int) (da_cons de_int da_nil))) (da_cons (de_un un_neg cov_neg de_int) da_nil))) (da_cons (de_callE rfl G_power_of bA_power_of (hr.mono (by decide)) rfl TK (da_cons (de_tup (da_cons de_int (da_cons de_int da_nil))) (da_cons de_int da_nil))) (da_cons (de_callE rfl G_power_of bA_power_of (hr.mono (by decide)) rfl TK (da_cons (de_tup (da_cons de_int (da_cons de_int da_nil))) (da_cons de_int da_nil))) (da_cons (de_callE rfl G_power_of bA_power_of (hr.mono (by decide)) rfl TK (da_cons (de_tup (da_cons (de_un un_neg cov_neg de_int) (da_cons de_int da_nil))) (da_cons (de_un un_neg cov_neg de_int) da_nil))) (da_cons (de_callE rfl G_power_of bA_power_of (hr.mono (by decide)) rfl TK (da_cons (de_tup (da_cons de_int (da_cons de_int da_nil))) (da_cons de_int da_nil))) da_nil))))))))
    (ds_cons (ds_set (i := 1) sc__law_by_hand_right.nd rfl (by first | exact .inl rfl | exact .inr rfl) (de_op opr_add cov_add (de_var 1 (pv 1)) (de_lst (da_cons (de_tup (da_cons (de_un un_neg cov_neg de_int) (da_cons de_int da_nil))) (da_cons (de_tup (da_cons de_int (da_cons de_int da_nil))) (da_cons (de_tup (da_cons de_int (da_cons de_int da_nil))) (da_cons (de_tup (da_cons (de_un un_neg cov_neg de_int) (da_cons de_int da_nil))) (da_cons (de_tup (da_cons de_int (da_cons de_int da_nil))) da_nil))))))))
    (ds_cons (ds_set (i := 0) sc__law_by_hand_right.nd rfl (by first | exact .inl rfl | exact .inr rfl) (de_op opr_add cov_add (de_var 0 (pv 0)) (de_lst (da_cons (de_callE rfl G_power_of bA_power_of (hr.mono (by decide)) rfl TK (da_cons (de_tup (da_cons de_int (da_cons de_int da_nil))) (da_cons de_int da_nil))) (da_cons (de_callE rfl G_power_of bA_power_of (hr.mono (by decide)) rfl TK (da_cons (de_tup (da_cons de_int (da_cons de_int da_nil))) (da_cons (de_un un_neg cov_neg de_int) da_nil))) (da_cons (de_callE rfl G_power_of bA_power_of (hr.mono (by decide)) rfl TK (da_cons (de_tup (da_cons (de_un un_neg cov_neg de_int) (da_cons de_int da_nil))) (da_cons de_int da_nil))) da_nil))))))
    (ds_cons (ds_set (i := 1) sc__law_by_hand_right.nd rfl (by first | exact .inl rfl | exact .inr rfl) (de_op opr_add cov_add (de_var 1 (pv 1)) (de_lst (da_cons (de_tup (da_cons de_int (da_cons de_int da_nil))) (da_cons (de_tup (da_cons de_int (da_cons de_int da_nil))) (da_cons (de_tup (da_cons de_int (da_cons de_int da_nil))) da_nil))))))
    (ds_cons (ds_set (i := 0) sc__law_by_hand_right.nd rfl (by first | exact .inl rfl | exact .inr rfl) (de_op opr_add cov_add (de_var 0 (pv 0)) (de_lst (da_cons (de_callE rfl G_is_less bA_is_less (hr.mono (by decide)) rfl TK (da_cons (de_tup (da_cons (de_un un_neg cov_neg de_int) (da_cons de_int da_nil))) (da_cons (de_tup (da_cons (de_un un_neg cov_neg de_int) (da_cons de_int da_nil))) da_nil))) (da_cons (de_callE rfl G_is_less bA_is_less (hr.mono (by decide)) rfl TK (da_cons (de_tup (da_cons de_int (da_cons de_int da_nil))) (da_cons (de_tup (da_cons de_int (da_cons de_int da_nil))) da_nil))) (da_cons (de_callE rfl G_is_less bA_is_less (hr.mono (by decide)) rfl TK (da_cons (de_tup (da_cons de_int (da_cons de_int da_nil))) (da_cons (de_tup (da_cons de_int (da_cons de_int da_nil))) da_nil))) (da_cons (de_callE rfl G_is_less bA_is_less (hr.mono (by decide)) rfl TK (da_cons (de_tup (da_cons (de_un un_neg cov_neg de_int) (da_cons de_int da_nil))) (da_cons (de_tup (da_cons de_int (da_cons de_int da_nil))) da_nil))) da_nil)))))))
    (ds_cons (ds_set (i := 1) sc__law_by_hand_right.nd rfl (by first | exact .inl rfl | exact .inr rfl) (de_op opr_add cov_add (de_var 1 (pv 1)) (de_lst (da_cons de_bl (da_cons de_bl (da_cons de_bl (da_cons de_bl da_nil)))))))
    (ds_cons (ds_set (i := 0) sc__law_by_hand_right.nd rfl (by first | exact .inl rfl | exact .inr rfl) (de_op opr_add cov_add (de_var 0 (pv 0)) (de_lst (da_cons (de_callE rfl G_sign_of bA_sign_of (hr.mono (by decide)) rfl TK (da_cons (de_tup (da_cons (de_un un_neg cov_neg de_int) (da_cons de_int da_nil))) da_nil)) (da_cons (de_callE rfl G_sign_of bA_sign_of (hr.mono (by decide)) rfl TK (da_cons (de_tup (da_cons de_int (da_cons de_int da_nil))) da_nil)) (da_cons (de_callE rfl G_sign_of bA_sign_of (hr.mono (by decide)) rfl TK (da_cons (de_tup (da_cons de_int (da_cons de_int da_nil))) da_nil)) da_nil))))))
    (ds_cons (ds_set (i := 1) sc__law_by_hand_right.nd rfl (by first | exact .inl rfl | exact .inr rfl) (de_op opr_add cov_add (de_var 1 (pv 1)) (de_lst (da_cons (de_un un_neg cov_neg de_int) (da_cons de_int (da_cons de_int da_nil))))))
    (ds_cons (ds_set (i := 0) sc__law_by_hand_right.nd rfl (by first | exact .inl rfl | exact .inr rfl) (de_op opr_add cov_add (de_var 0 (pv 0)) (de_lst (da_cons (de_callEK0 rfl (by decide) G_fraction bK_0 (hr.mono (by decide)) rfl TK (dk_cons de_int (dk_cons de_int dk_nil))) (da_cons (de_callEK0 rfl (by decide) G_whole bK_1 (hr.mono (by decide)) rfl TK (dk_cons de_int dk_nil)) (da_cons (de_callEK0 rfl (by decide) G_plus bK_2 (hr.mono (by decide)) rfl TK (dk_cons (de_tup (da_cons de_int (da_cons de_int da_nil))) (dk_cons (de_lst (da_cons de_int (da_cons de_int da_nil))) dk_nil))) (da_cons (de_callEK0 rfl (by decide) G_minus bK_3 (hr.mono (by decide)) rfl TK (dk_cons (de_lst (da_cons de_int (da_cons de_int da_nil))) (dk_cons (de_lst (da_cons de_int (da_cons de_int da_nil))) dk_nil))) da_nil)))))))
    (ds_cons (ds_set (i := 1) sc__law_by_hand_right.nd rfl (by first | exact .inl rfl | exact .inr rfl) (de_op opr_add cov_add (de_var 1 (pv 1)) (de_lst (da_cons (de_tup (da_cons de_int (da_cons de_int da_nil))) (da_cons (de_tup (da_cons de_int (da_cons de_int da_nil))) (da_cons (de_tup (da_cons de_int (da_cons de_int da_nil))) (da_cons (de_tup (da_cons (de_un un_neg cov_neg de_int) (da_cons de_int da_nil))) da_nil)))))))
    (ds_cons (ds_set (i := 0) sc__law_by_hand_right.nd rfl (by first | exact .inl rfl | exact .inr rfl) (de_op opr_add cov_add (de_var 0 (pv 0)) (de_lst (da_cons (de_callE rfl G_times bA_times (hr.mono (by decide)) rfl TK (da_cons (de_lst (da_cons de_int (da_cons de_int da_nil))) (da_cons (de_lst (da_cons de_int (da_cons de_int da_nil))) da_nil))) (da_cons (de_callEK0 rfl (by decide) G_over bK_4 (hr.mono (by decide)) rfl TK (dk_cons (de_lst (da_cons de_int (da_cons de_int da_nil))) (dk_cons (de_lst (da_cons de_int (da_cons de_int da_nil))) dk_nil))) (da_cons (de_callEK0 rfl (by decide) G_power_of bK_5 (hr.mono (by decide)) rfl TK (dk_cons de_int (dk_cons (de_lst (da_cons de_int (da_cons de_int da_nil))) dk_nil))) (da_cons (de_callEK0 rfl (by decide) G_is_less bK_6 (hr.mono (by decide)) rfl TK (dk_cons (de_lst (da_cons de_int (da_cons de_int da_nil))) (dk_cons (de_lst (da_cons de_int (da_cons de_int da_nil))) dk_nil))) da_nil)))))))
    (ds_cons (ds_set (i := 1) sc__law_by_hand_right.nd rfl (by first | exact .inl rfl | exact .inr rfl) (de_op opr_add cov_add (de_var 1 (pv 1)) (de_lst (da_cons (de_tup (da_cons de_int (da_cons de_int da_nil))) (da_cons (de_tup (da_cons de_int (da_cons de_int da_nil))) (da_cons (de_tup (da_cons de_int (da_cons de_int da_nil))) (da_cons de_bl da_nil)))))))
    (ds_cons (ds_set (i := 0) sc__law_by_hand_right.nd rfl (by first | exact .inl rfl | exact .inr rfl) (de_op opr_add cov_add (de_var 0 (pv 0)) (de_lst (da_cons (de_callEK0 rfl (by decide) G_sign_of bK_7 (hr.mono (by decide)) rfl TK (dk_cons (de_lst (da_cons (de_un un_neg cov_neg de_int) (da_cons de_int da_nil))) dk_nil)) (da_cons (de_callEK0 rfl (by decide) G_is_fraction bK_8 (hr.mono (by decide)) rfl TK (dk_cons (de_tup (da_cons de_int (da_cons de_int da_nil))) dk_nil)) da_nil)))))
    (ds_cons (ds_set (i := 1) sc__law_by_hand_right.nd rfl (by first | exact .inl rfl | exact .inr rfl) (de_op opr_add cov_add (de_var 1 (pv 1)) (de_lst (da_cons (de_un un_neg cov_neg de_int) (da_cons de_bl da_nil)))))
    (ds_cons (ds_set (i := 0) sc__law_by_hand_right.nd rfl (by first | exact .inl rfl | exact .inr rfl) (de_op opr_add cov_add (de_var 0 (pv 0)) (de_lst (da_cons (de_callE rfl G__law_heard bA__law_heard (hr.mono (by decide)) rfl TK (da_cons de_int (da_cons de_int (da_cons de_int da_nil)))) (da_cons (de_callE rfl G__law_heard bA__law_heard (hr.mono (by decide)) rfl TK (da_cons de_int (da_cons de_int (da_cons de_int da_nil)))) (da_cons (de_callE rfl G__law_heard bA__law_heard (hr.mono (by decide)) rfl TK (da_cons (de_tup (da_cons de_int (da_cons de_int da_nil))) (da_cons (de_tup (da_cons de_int (da_cons de_int da_nil))) (da_cons de_int da_nil)))) (da_cons (de_callE rfl G__law_heard bA__law_heard (hr.mono (by decide)) rfl TK (da_cons (de_tup (da_cons de_int (da_cons de_int da_nil))) (da_cons (de_tup (da_cons de_int (da_cons de_int da_nil))) (da_cons de_int da_nil)))) da_nil)))))))
    (ds_cons (ds_set (i := 0) sc__law_by_hand_right.nd rfl (by first | exact .inl rfl | exact .inr rfl) (de_op opr_add cov_add (de_var 0 (pv 0)) (de_lst (da_cons (de_callE rfl G__law_heard bA__law_heard (hr.mono (by decide)) rfl TK (da_cons (de_tup (da_cons de_int (da_cons de_int da_nil))) (da_cons (de_un un_neg cov_neg de_int) (da_cons de_int da_nil)))) (da_cons (de_callE rfl G__law_heard bA__law_heard (hr.mono (by decide)) rfl TK (da_cons (de_lst (da_cons de_int (da_cons de_int da_nil))) (da_cons (de_un un_neg cov_neg de_int) (da_cons de_int da_nil)))) da_nil)))))
    (ds_cons (ds_set (i := 1) sc__law_by_hand_right.nd rfl (by first | exact .inl rfl | exact .inr rfl) (de_op opr_add cov_add (de_var 1 (pv 1)) (de_op opr_mul cov_mul (de_lst (da_cons (de_lst (da_cons de_str (da_cons de_bl da_nil))) da_nil)) de_int)))
    (ds_cons (ds_set (i := 2) sc__law_by_hand_right.nd rfl (by first | exact .inl rfl | exact .inr rfl) (de_lst (da_cons (de_tup (da_cons de_int (da_cons de_int da_nil))) (da_cons (de_tup (da_cons de_int (da_cons de_int da_nil))) (da_cons (de_tup (da_cons (de_un un_neg cov_neg de_int) (da_cons de_int da_nil))) (da_cons (de_tup (da_cons de_int (da_cons de_int da_nil))) (da_cons (de_tup (da_cons (de_op op_pow cov_pow de_int de_int) (da_cons de_int da_nil))) da_nil)))))))
    (ds_cons (ds_set (i := 3) sc__law_by_hand_right.nd rfl (by first | exact .inl rfl | exact .inr rfl) (de_lst (da_cons (de_tup (da_cons de_int (da_cons de_int da_nil))) (da_cons (de_tup (da_cons de_int (da_cons de_int da_nil))) (da_cons (de_tup (da_cons de_int (da_cons de_int da_nil))) (da_cons (de_tup (da_cons de_int (da_cons (de_un un_neg cov_neg de_int) da_nil))) (da_cons (de_tup (da_cons (de_un un_neg cov_neg de_int) (da_cons (de_un un_neg cov_neg de_int) da_nil))) (da_cons (de_tup (da_cons de_bl (da_cons de_int da_nil))) (da_cons (de_tup (da_cons de_int (da_cons de_bl da_nil))) (da_cons (de_lst (da_cons de_int (da_cons de_int da_nil))) (da_cons (de_tup (da_cons de_int da_nil)) (da_cons (de_tup (da_cons de_int (da_cons de_int (da_cons de_int da_nil)))) (da_cons (de_tup da_nil) (da_cons de_non (da_cons de_str (da_cons de_int (da_cons de_int (da_cons (de_tup (da_cons de_str (da_cons de_int da_nil))) da_nil))))))))))))))))))
    (ds_cons (ds_set (i := 0) sc__law_by_hand_right.nd rfl (by first | exact .inl rfl | exact .inr rfl) (de_op opr_add cov_add (de_op opr_add cov_add (de_var 0 (pv 0)) (de_lc rfl sc__law_by_hand_right.nd (own := [("own", 4)]) (di_seq rfl (de_op opr_add cov_add (de_var 2 (pv 2)) (de_var 3 (pv 3)))) (blkOk_by (N := N_law_by_hand_right) (sc := defScope st_law_by_hand_right) (by decide +kernel)) (by decide) (fun _ _ _ _ _ => (dg_name (i := 4) sc__law_by_hand_right.nd rfl (by first | exact .inl rfl | exact .inr rfl))) (fun _ _ _ _ _ => dts_nil) (fun _ _ _ _ _ => (de_callE rfl G_is_fraction bA_is_fraction (hr.mono (by decide)) rfl takes0 (da_cons (de_var 4 (pv 4)) da_nil))))) (de_lst (da_cons (de_callE rfl G_is_fraction bA_is_fraction (hr.mono (by decide)) rfl TK (da_cons (de_tup (da_cons (de_tup (da_cons de_int (da_cons de_int da_nil))) (da_cons de_int da_nil))) da_nil)) (da_cons (de_callE rfl G_is_fraction bA_is_fraction (hr.mono (by decide)) rfl TK (da_cons (de_tup (da_cons de_int (da_cons (de_tup (da_cons de_int (da_cons de_int da_nil))) da_nil))) da_nil)) (da_cons (de_callE rfl G_is_fraction bA_is_fraction (hr.mono (by decide)) rfl TK (da_cons (de_tup (da_cons de_int (da_cons de_int da_nil))) da_nil)) da_nil))))))
    (ds_cons (ds_set (i := 1) sc__law_by_hand_right.nd rfl (by first | exact .inl rfl | exact .inr rfl) (de_op opr_add cov_add (de_op opr_add cov_add (de_op opr_add cov_add (de_var 1 (pv 1)) (de_op opr_mul cov_mul (de_lst (da_cons de_bl da_nil)) de_int)) (de_op opr_mul cov_mul (de_lst (da_cons de_bl da_nil)) de_int)) (de_lst (da_cons de_bl (da_cons de_bl (da_cons de_bl da_nil))))))
    (ds_one (ds_ret (de_callE rfl G__law_same bA__law_same (hr.mono (by decide)) rfl TK (da_cons (de_var 0 (pv 0)) (da_cons (de_var 1 (pv 1)) da_nil)))))))))))))))))))))))))))))))), hm, F⟩
def b_law_cells : Sv :=
    (sSeq (sSet 2 (eOr (eCall bList (aCons (eSl (eVar 0) pNone (pSome (eVar 1))) aNil)) (eLst (aCons (eC (.int 0)) aNil))))
    (sSeq (sFor (iEnum (aCons (eSl (eVar 0) (pSome (eVar 1)) (pSome (eC (.int 63)))) aNil)) (vTup 2 (vCons (vName 3) (vCons (vName 4) vNil))) (sSeq (sSet 5 (eBin opMod (eCall bInt (aCons (eVar 3) aNil)) (eVar 1)))
    (sStore (eVar 2) (eVar 5) (eBin opAdd (eBin opIx (eVar 2) (eVar 5)) (eBin opMul (eVar 4) (eBin opAdd (eVar 3) (eC (.int 2))))))))
    (sRet (eVar 2))))
def f_law_cells : ON := runB 2 6 b_law_cells
theorem ok__law_cells {P : Program} {wd : World} {w : Wd} {mg : Str → Option Value} {base : Heap} (T : Tx w mg) {ad : Addr} {fd : FuncData} (hm : mg "_law_cells" = some (.ref ad)) (F : Fun w.K "_law_cells" "_law_cells" st_law_cells ad fd) :
    Ent P wd w mg base "_law_cells" st_law_cells ad fd 1 ["script", "top_in"] f_law_cells :=
  ⟨fn_D F sc__law_cells rfl rfl fun cdv A outer s H E hr => by
    have TK := takes_of (X := cxOf (L2.CX P wd) P wd w.K mg base N_law_cells "_law_cells" (defScope st_law_cells) ad cdv A outer s H E) rfl rfl rfl rfl
    have PO := passes_of (X := cxOf (L2.CX P wd) P wd w.K mg base N_law_cells "_law_cells" (defScope st_law_cells) ad cdv A outer s H E) rfl
    exact (ds_cons (ds_set (i := 2) sc__law_cells.nd rfl (by first | exact .inl rfl | exact .inr rfl) (de_or rfl (de_callTy call_list_of cov_list rfl T.n_list (by decide +kernel) (da_cons (de_sl rfl (de_var 0 (pv 0)) dp_none (dp_some (de_var 1 (pv 1)))) da_nil)) (de_one (de_lst (da_cons de_int da_nil)))))
    (ds_cons (ds_for PO rfl (di_enum rfl rfl T.n_enumerate (da_cons (de_sl rfl (de_var 0 (pv 0)) (dp_some (de_var 1 (pv 1))) (dp_some de_int)) da_nil)) (dg_tup rfl rfl (dgs_cons (dg_name (i := 3) sc__law_cells.nd rfl (by first | exact .inl rfl | exact .inr rfl)) (dgs_cons (dg_name (i := 4) sc__law_cells.nd rfl (by first | exact .inl rfl | exact .inr rfl)) dgs_nil))) (ds_cons (ds_set (i := 5) sc__law_cells.nd rfl (by first | exact .inl rfl | exact .inr rfl) (de_op op_mod cov_mod (de_callTy call_int1 cov_int rfl T.n_int (by decide +kernel) (da_cons (de_var 3 (pv 3)) da_nil)) (de_var 1 (pv 1))))
    (ds_one (ds_store rfl (de_op opr_add cov_add (de_ix rfl (de_var 2 (pv 2)) (de_var 5 (pv 5))) (de_op opr_mul cov_mul (de_var 4 (pv 4)) (de_op opr_add cov_add (de_var 3 (pv 3)) de_int))) (de_var 2 (pv 2)) (de_var 5 (pv 5))))))
    (ds_one (ds_ret (de_var 2 (pv 2)))))), hm, F⟩
def b_law_low : Sv :=
    (sSeq (sPar 2 3 (eCall bAbs (aCons (eVar 0) aNil)) (eCall bAbs (aCons (eVar 1) aNil)))
    (sSeq (sWhile (tstB (eBin opGt (eVar 3) (eC (.int 0)))) (sPar 2 3 (eVar 3) (eBin opMod (eCall bInt (aCons (eVar 2) aNil)) (eVar 3))))
    (sSeq (sSet 4 (eIf (tstB (eBin opLt (eVar 1) (eC (.int 0)))) (eUn opNeg (eC (.int 1))) (eC (.int 1))))
    (sRet (eTup (aCons (eBin opDiv (eBin opMul (eVar 4) (eVar 0)) (eVar 2)) (aCons (eBin opDiv (eBin opMul (eVar 4) (eVar 1)) (eVar 2)) aNil)))))))
def f_law_low : ON := runB 2 5 b_law_low
theorem ok__law_low {P : Program} {wd : World} {w : Wd} {mg : Str → Option Value} {base : Heap} (T : Tx w mg) {ad : Addr} {fd : FuncData} (hm : mg "_law_low" = some (.ref ad)) (F : Fun w.K "_law_low" "_law_low" st_law_low ad fd) :
    Ent P wd w mg base "_law_low" st_law_low ad fd 1 ["high", "deep"] f_law_low :=
  ⟨fn_D F sc__law_low rfl rfl fun cdv A outer s H E hr => by
    have TK := takes_of (X := cxOf (L2.CX P wd) P wd w.K mg base N_law_low "_law_low" (defScope st_law_low) ad cdv A outer s H E) rfl rfl rfl rfl
    have PO := passes_of (X := cxOf (L2.CX P wd) P wd w.K mg base N_law_low "_law_low" (defScope st_law_low) ad cdv A outer s H E) rfl
    exact (ds_cons (ds_par (i := 2) (j := 3) rfl sc__law_low.nd rfl rfl (by decide) rfl rfl (de_callB call_abs cov_abs rfl T.n_abs (by decide +kernel) (da_cons (de_var 0 (pv 0)) da_nil)) (de_callB call_abs cov_abs rfl T.n_abs (by decide +kernel) (da_cons (de_var 1 (pv 1)) da_nil)) rfl)
    (ds_cons (ds_while PO (dt_cmp op_gt (cov_cmpI _) (de_var 3 (pv 3)) de_int) (ds_one (ds_par (i := 2) (j := 3) rfl sc__law_low.nd rfl rfl (by decide) rfl rfl (de_var 3 (pv 3)) (de_op op_mod cov_mod (de_callTy call_int1 cov_int rfl T.n_int (by decide +kernel) (da_cons (de_var 2 (pv 2)) da_nil)) (de_var 3 (pv 3))) rfl)))
    (ds_cons (ds_set (i := 4) sc__law_low.nd rfl (by first | exact .inl rfl | exact .inr rfl) (de_if (dt_cmp op_lt (cov_cmpI _) (de_var 1 (pv 1)) de_int) (de_un un_neg cov_neg de_int) de_int))
    (ds_one (ds_ret (de_tup (da_cons (de_op op_fdivW cov_div (de_op opr_mul cov_mul (de_var 4 (pv 4)) (de_var 0 (pv 0))) (de_var 2 (pv 2))) (da_cons (de_op op_fdivW cov_div (de_op opr_mul cov_mul (de_var 4 (pv 4)) (de_var 1 (pv 1))) (de_var 2 (pv 2))) da_nil)))))))), hm, F⟩
def b_law_add : Sv :=
    (sRet (eCall f_law_low (aCons (eBin opAdd (eBin opMul (eBin opIx (eVar 0) (eC (.int 0))) (eBin opIx (eVar 1) (eC (.int 1)))) (eBin opMul (eBin opIx (eVar 1) (eC (.int 0))) (eBin opIx (eVar 0) (eC (.int 1))))) (aCons (eBin opMul (eBin opIx (eVar 0) (eC (.int 1))) (eBin opIx (eVar 1) (eC (.int 1)))) aNil))))
def f_law_add : ON := runB 2 2 b_law_add
theorem ok__law_add {P : Program} {wd : World} {w : Wd} {mg : Str → Option Value} {base : Heap} (T : Tx w mg) {ad : Addr} {fd : FuncData} (hm : mg "_law_add" = some (.ref ad)) (F : Fun w.K "_law_add" "_law_add" st_law_add ad fd) {a__law_low : Addr} {d__law_low : FuncData} (G__law_low : Ent P wd w mg base "_law_low" st_law_low a__law_low d__law_low 1 ["high", "deep"] f_law_low) :
    Ent P wd w mg base "_law_add" st_law_add ad fd 2 ["left", "right"] f_law_add :=
  ⟨fn_D F sc__law_add rfl rfl fun cdv A outer s H E hr => by
    have TK := takes_of (X := cxOf (L2.CX P wd) P wd w.K mg base N_law_add "_law_add" (defScope st_law_add) ad cdv A outer s H E) rfl rfl rfl rfl
    have PO := passes_of (X := cxOf (L2.CX P wd) P wd w.K mg base N_law_add "_law_add" (defScope st_law_add) ad cdv A outer s H E) rfl
    exact (ds_one (ds_ret (de_callE rfl G__law_low bA__law_low (hr.mono (by decide)) rfl TK (da_cons (de_op opr_add cov_add (de_op opr_mul cov_mul (de_ix rfl (de_var 0 (pv 0)) de_int) (de_ix rfl (de_var 1 (pv 1)) de_int)) (de_op opr_mul cov_mul (de_ix rfl (de_var 1 (pv 1)) de_int) (de_ix rfl (de_var 0 (pv 0)) de_int))) (da_cons (de_op opr_mul cov_mul (de_ix rfl (de_var 0 (pv 0)) de_int) (de_ix rfl (de_var 1 (pv 1)) de_int)) da_nil))))), hm, F⟩
def b_law_take : Sv :=
    (sSeq (sIf (tstB (eBin opGt (eBin opIx (eVar 0) (eC (.int 0))) (eC (.int 0)))) (sSeq (sSet 2 (eBin opMod (eCall bInt (aCons (eBin opIx (eVar 0) (eC (.int 0))) aNil)) (eVar 1)))
    (sSeq (sStore (eVar 0) (eC (.int 0)) (eBin opDiv (eBin opIx (eVar 0) (eC (.int 0))) (eVar 1)))
    (sRet (eVar 2)))) sNil)
    (sSeq (sStore (eVar 0) (eC (.int 2)) (eBin opAdd (eBin opIx (eVar 0) (eC (.int 2))) (eC (.int 1))))
    (sSeq (sSet 3 (eBin opMod (eCall bInt (aCons (eBin opMul (eBin opAdd (eBin opIx (eVar 0) (eC (.int 1))) (eBin opMul (eC (.int 48271)) (eBin opIx (eVar 0) (eC (.int 2))))) (eBin opAdd (eC (.int 39373)) (eBin opIx (eVar 0) (eC (.int 2))))) aNil)) (eC (.int 2147483647))))
    (sSeq (sSet 4 (eBin opAdd (eBin opMod (eCall bInt (aCons (eVar 3) aNil)) (eC (.int 40009))) (eC (.int 7))))
    (sSeq (sSet 5 (eBin opMod (eCall bInt (aCons (eBin opMul (eBin opAdd (eBin opAdd (eVar 3) (eBin opIx (eVar 0) (eC (.int 2)))) (eBin opDiv (eBin opIx (eVar 0) (eC (.int 1))) (eC (.int 1000003)))) (eVar 4)) aNil)) (eC (.int 2147483629))))
    (sRet (eBin opMod (eCall bInt (aCons (eBin opDiv (eBin opMod (eCall bInt (aCons (eBin opAdd (eBin opMul (eVar 5) (eC (.int 48271))) (eVar 3)) aNil)) (eC (.int 2147483587))) (eC (.int 64))) aNil)) (eVar 1))))))))
def f_law_take : ON := runB 2 6 b_law_take
theorem ok__law_take {P : Program} {wd : World} {w : Wd} {mg : Str → Option Value} {base : Heap} (T : Tx w mg) {ad : Addr} {fd : FuncData} (hm : mg "_law_take" = some (.ref ad)) (F : Fun w.K "_law_take" "_law_take" st_law_take ad fd) :
    Ent P wd w mg base "_law_take" st_law_take ad fd 1 ["urn", "low_so"] f_law_take :=
  ⟨fn_D F sc__law_take rfl rfl fun cdv A outer s H E hr => by
    have TK := takes_of (X := cxOf (L2.CX P wd) P wd w.K mg base N_law_take "_law_take" (defScope st_law_take) ad cdv A outer s H E) rfl rfl rfl rfl
    have PO := passes_of (X := cxOf (L2.CX P wd) P wd w.K mg base N_law_take "_law_take" (defScope st_law_take) ad cdv A outer s H E) rfl
    exact (ds_cons (ds_if (dt_cmp op_gt (cov_cmpI _) (de_ix rfl (de_var 0 (pv 0)) de_int) de_int) (ds_cons (ds_set (i := 2) sc__law_take.nd rfl (by first | exact .inl rfl | exact .inr rfl) (de_op op_mod cov_mod (de_callTy call_int1 cov_int rfl T.n_int (by decide +kernel) (da_cons (de_ix rfl (de_var 0 (pv 0)) de_int) da_nil)) (de_var 1 (pv 1))))
    (ds_cons (ds_store rfl (de_op op_fdivW cov_div (de_ix rfl (de_var 0 (pv 0)) de_int) (de_var 1 (pv 1))) (de_var 0 (pv 0)) de_int)
    (ds_one (ds_ret (de_var 2 (pv 2)))))) ds_nil)
    (ds_cons (ds_store rfl (de_op opr_add cov_add (de_ix rfl (de_var 0 (pv 0)) de_int) de_int) (de_var 0 (pv 0)) de_int)
    (ds_cons (ds_set (i := 3) sc__law_take.nd rfl (by first | exact .inl rfl | exact .inr rfl) (de_op op_mod cov_mod (de_callTy call_int1 cov_int rfl T.n_int (by decide +kernel) (da_cons (de_op opr_mul cov_mul (de_op opr_add cov_add (de_ix rfl (de_var 0 (pv 0)) de_int) (de_op opr_mul cov_mul de_int (de_ix rfl (de_var 0 (pv 0)) de_int))) (de_op opr_add cov_add de_int (de_ix rfl (de_var 0 (pv 0)) de_int))) da_nil)) de_int))
    (ds_cons (ds_set (i := 4) sc__law_take.nd rfl (by first | exact .inl rfl | exact .inr rfl) (de_op opr_add cov_add (de_op op_mod cov_mod (de_callTy call_int1 cov_int rfl T.n_int (by decide +kernel) (da_cons (de_var 3 (pv 3)) da_nil)) de_int) de_int))
    (ds_cons (ds_set (i := 5) sc__law_take.nd rfl (by first | exact .inl rfl | exact .inr rfl) (de_op op_mod cov_mod (de_callTy call_int1 cov_int rfl T.n_int (by decide +kernel) (da_cons (de_op opr_mul cov_mul (de_op opr_add cov_add (de_op opr_add cov_add (de_var 3 (pv 3)) (de_ix rfl (de_var 0 (pv 0)) de_int)) (de_op op_fdivW cov_div (de_ix rfl (de_var 0 (pv 0)) de_int) de_int)) (de_var 4 (pv 4))) da_nil)) de_int))
    (ds_one (ds_ret (de_op op_mod cov_mod (de_callTy call_int1 cov_int rfl T.n_int (by decide +kernel) (da_cons (de_op op_fdivW cov_div (de_op op_mod cov_mod (de_callTy call_int1 cov_int rfl T.n_int (by decide +kernel) (da_cons (de_op opr_add cov_add (de_op opr_mul cov_mul (de_var 5 (pv 5)) de_int) (de_var 3 (pv 3))) da_nil)) de_int) de_int) da_nil)) (de_var 1 (pv 1)))))))))), hm, F⟩
def b_law_frac : Sv :=
    (sSeq (sIf (tst (eVar 1)) (sRet (eCall f_law_low (aCons (eBin opSub (eCall f_law_take (aCons (eVar 0) (aCons (eC (.int 2000001)) aNil))) (eC (.int 1000000))) (aCons (eBin opAdd (eC (.int 1)) (eCall f_law_take (aCons (eVar 0) (aCons (eC (.int 1000000)) aNil)))) aNil)))) sNil)
    (sRet (eCall f_law_low (aCons (eBin opSub (eCall f_law_take (aCons (eVar 0) (aCons (eC (.int 13)) aNil))) (eC (.int 6))) (aCons (eBin opAdd (eC (.int 1)) (eCall f_law_take (aCons (eVar 0) (aCons (eC (.int 4)) aNil)))) aNil)))))
def f_law_frac : ON := runB 2 2 b_law_frac
theorem ok__law_frac {P : Program} {wd : World} {w : Wd} {mg : Str → Option Value} {base : Heap} (T : Tx w mg) {ad : Addr} {fd : FuncData} (hm : mg "_law_frac" = some (.ref ad)) (F : Fun w.K "_law_frac" "_law_frac" st_law_frac ad fd) {a__law_low : Addr} {d__law_low : FuncData} (G__law_low : Ent P wd w mg base "_law_low" st_law_low a__law_low d__law_low 1 ["high", "deep"] f_law_low) {a__law_take : Addr} {d__law_take : FuncData} (G__law_take : Ent P wd w mg base "_law_take" st_law_take a__law_take d__law_take 1 ["urn", "low_so"] f_law_take) :
    Ent P wd w mg base "_law_frac" st_law_frac ad fd 2 ["urn", "wide_so"] f_law_frac :=
  ⟨fn_D F sc__law_frac rfl rfl fun cdv A outer s H E hr => by
    have TK := takes_of (X := cxOf (L2.CX P wd) P wd w.K mg base N_law_frac "_law_frac" (defScope st_law_frac) ad cdv A outer s H E) rfl rfl rfl rfl
    have PO := passes_of (X := cxOf (L2.CX P wd) P wd w.K mg base N_law_frac "_law_frac" (defScope st_law_frac) ad cdv A outer s H E) rfl
    exact (ds_cons (ds_if (dt_tru rfl (de_var 1 (pv 1))) (ds_one (ds_ret (de_callE rfl G__law_low bA__law_low (hr.mono (by decide)) rfl TK (da_cons (de_op op_sub cov_sub (de_callE rfl G__law_take bA__law_take (hr.mono (by decide)) rfl TK (da_cons (de_var 0 (pv 0)) (da_cons de_int da_nil))) de_int) (da_cons (de_op opr_add cov_add de_int (de_callE rfl G__law_take bA__law_take (hr.mono (by decide)) rfl TK (da_cons (de_var 0 (pv 0)) (da_cons de_int da_nil)))) da_nil))))) ds_nil)
    (ds_one (ds_ret (de_callE rfl G__law_low bA__law_low (hr.mono (by decide)) rfl TK (da_cons (de_op op_sub cov_sub (de_callE rfl G__law_take bA__law_take (hr.mono (by decide)) rfl TK (da_cons (de_var 0 (pv 0)) (da_cons de_int da_nil))) de_int) (da_cons (de_op opr_add cov_add de_int (de_callE rfl G__law_take bA__law_take (hr.mono (by decide)) rfl TK (da_cons (de_var 0 (pv 0)) (da_cons de_int da_nil)))) da_nil)))))), hm, F⟩
def b_law_inv : Sv :=
    (sRet (eCall f_law_low (aCons (eBin opIx (eVar 0) (eC (.int 1))) (aCons (eBin opIx (eVar 0) (eC (.int 0))) aNil))))
def f_law_inv : ON := runB 1 1 b_law_inv
theorem ok__law_inv {P : Program} {wd : World} {w : Wd} {mg : Str → Option Value} {base : Heap} (T : Tx w mg) {ad : Addr} {fd : FuncData} (hm : mg "_law_inv" = some (.ref ad)) (F : Fun w.K "_law_inv" "_law_inv" st_law_inv ad fd) {a__law_low : Addr} {d__law_low : FuncData} (G__law_low : Ent P wd w mg base "_law_low" st_law_low a__law_low d__law_low 1 ["high", "deep"] f_law_low) :
    Ent P wd w mg base "_law_inv" st_law_inv ad fd 2 ["left"] f_law_inv :=
  ⟨fn_D F sc__law_inv rfl rfl fun cdv A outer s H E hr => by
    have TK := takes_of (X := cxOf (L2.CX P wd) P wd w.K mg base N_law_inv "_law_inv" (defScope st_law_inv) ad cdv A outer s H E) rfl rfl rfl rfl
    have PO := passes_of (X := cxOf (L2.CX P wd) P wd w.K mg base N_law_inv "_law_inv" (defScope st_law_inv) ad cdv A outer s H E) rfl
    exact (ds_one (ds_ret (de_callE rfl G__law_low bA__law_low (hr.mono (by decide)) rfl TK (da_cons (de_ix rfl (de_var 0 (pv 0)) de_int) (da_cons (de_ix rfl (de_var 0 (pv 0)) de_int) da_nil))))), hm, F⟩
def b_law_number : Sv :=
    (sRet (eAnd (eIsi [.int] (eVar 0)) (eNot (eIsi [.bool] (eVar 0)))))
def f_law_number : ON := runB 1 1 b_law_number
theorem ok__law_number {P : Program} {wd : World} {w : Wd} {mg : Str → Option Value} {base : Heap} (T : Tx w mg) {ad : Addr} {fd : FuncData} (hm : mg "_law_number" = some (.ref ad)) (F : Fun w.K "_law_number" "_law_number" st_law_number ad fd) :
    Ent P wd w mg base "_law_number" st_law_number ad fd 1 ["matter"] f_law_number :=
  ⟨fn_D F sc__law_number rfl rfl fun cdv A outer s H E hr => by
    have TK := takes_of (X := cxOf (L2.CX P wd) P wd w.K mg base N_law_number "_law_number" (defScope st_law_number) ad cdv A outer s H E) rfl rfl rfl rfl
    have PO := passes_of (X := cxOf (L2.CX P wd) P wd w.K mg base N_law_number "_law_number" (defScope st_law_number) ad cdv A outer s H E) rfl
    exact (ds_one (ds_ret (de_and rfl (de_isi1 rfl rfl T.n_isinstance (by decide +kernel) (de_var 0 (pv 0)) ⟨rfl, T.n_int, by decide +kernel, by decide, by decide⟩) (de_one (de_not rfl (de_isi1 rfl rfl T.n_isinstance (by decide +kernel) (de_var 0 (pv 0)) ⟨rfl, T.n_bool, by decide +kernel, by decide, by decide⟩)))))), hm, F⟩
def b_law_is_frac : Sv :=
    (sSeq (sIf (tOr2 (tNot1 (tst (eIsi [.tuple] (eVar 0)))) (tstB (eBin opNe (eCall bLen (aCons (eVar 0) aNil)) (eC (.int 2))))) (sRet (eC (.bl false))) sNil)
    (sSeq (sIf (tOr2 (tNot1 (tst (eCall f_law_number (aCons (eBin opIx (eVar 0) (eC (.int 0))) aNil)))) (tOr2 (tNot1 (tst (eCall f_law_number (aCons (eBin opIx (eVar 0) (eC (.int 1))) aNil)))) (tstB (eBin opLt (eBin opIx (eVar 0) (eC (.int 1))) (eC (.int 1)))))) (sRet (eC (.bl false))) sNil)
    (sRet (eBin opEq (eCall f_law_low (aCons (eBin opIx (eVar 0) (eC (.int 0))) (aCons (eBin opIx (eVar 0) (eC (.int 1))) aNil))) (eVar 0)))))
def f_law_is_frac : ON := runB 1 1 b_law_is_frac
theorem ok__law_is_frac {P : Program} {wd : World} {w : Wd} {mg : Str → Option Value} {base : Heap} (T : Tx w mg) {ad : Addr} {fd : FuncData} (hm : mg "_law_is_frac" = some (.ref ad)) (F : Fun w.K "_law_is_frac" "_law_is_frac" st_law_is_frac ad fd) {a__law_number : Addr} {d__law_number : FuncData} (G__law_number : Ent P wd w mg base "_law_number" st_law_number a__law_number d__law_number 1 ["matter"] f_law_number) {a__law_low : Addr} {d__law_low : FuncData} (G__law_low : Ent P wd w mg base "_law_low" st_law_low a__law_low d__law_low 1 ["high", "deep"] f_law_low) :
    Ent P wd w mg base "_law_is_frac" st_law_is_frac ad fd 2 ["matter"] f_law_is_frac :=
  ⟨fn_D F sc__law_is_frac rfl rfl fun cdv A outer s H E hr => by
    have TK := takes_of (X := cxOf (L2.CX P wd) P wd w.K mg base N_law_is_frac "_law_is_frac" (defScope st_law_is_frac) ad cdv A outer s H E) rfl rfl rfl rfl
    have PO := passes_of (X := cxOf (L2.CX P wd) P wd w.K mg base N_law_is_frac "_law_is_frac" (defScope st_law_is_frac) ad cdv A outer s H E) rfl
    exact (ds_cons (ds_if (PW.pt (dw_or (dt_not (dt_tru rfl (de_isi1 rfl rfl T.n_isinstance (by decide +kernel) (de_var 0 (pv 0)) ⟨rfl, T.n_tuple, by decide +kernel, by decide, by decide⟩))) (dw_or1 (dt_cmp (op_neD hr.units) cov_ne (de_callB callr_len cov_len rfl T.n_len (by decide +kernel) (da_cons (de_var 0 (pv 0)) da_nil)) de_int)))) (ds_one (ds_ret de_bl)) ds_nil)
    (ds_cons (ds_if (PW.pt (dw_or (dt_not (dt_tru rfl (de_callE rfl G__law_number bA__law_number (hr.mono (by decide)) rfl TK (da_cons (de_ix rfl (de_var 0 (pv 0)) de_int) da_nil)))) (dw_or (dt_not (dt_tru rfl (de_callE rfl G__law_number bA__law_number (hr.mono (by decide)) rfl TK (da_cons (de_ix rfl (de_var 0 (pv 0)) de_int) da_nil)))) (dw_or1 (dt_cmp op_lt (cov_cmpI _) (de_ix rfl (de_var 0 (pv 0)) de_int) de_int))))) (ds_one (ds_ret de_bl)) ds_nil)
    (ds_one (ds_ret (de_cmp (op_eqD hr.units) cov_eq (de_callE rfl G__law_low bA__law_low (hr.mono (by decide)) rfl TK (da_cons (de_ix rfl (de_var 0 (pv 0)) de_int) (da_cons (de_ix rfl (de_var 0 (pv 0)) de_int) da_nil))) (de_var 0 (pv 0))))))), hm, F⟩
def b_law_mul : Sv :=
    (sRet (eCall f_law_low (aCons (eBin opMul (eBin opIx (eVar 0) (eC (.int 0))) (eBin opIx (eVar 1) (eC (.int 0)))) (aCons (eBin opMul (eBin opIx (eVar 0) (eC (.int 1))) (eBin opIx (eVar 1) (eC (.int 1)))) aNil))))
def f_law_mul : ON := runB 2 2 b_law_mul
theorem ok__law_mul {P : Program} {wd : World} {w : Wd} {mg : Str → Option Value} {base : Heap} (T : Tx w mg) {ad : Addr} {fd : FuncData} (hm : mg "_law_mul" = some (.ref ad)) (F : Fun w.K "_law_mul" "_law_mul" st_law_mul ad fd) {a__law_low : Addr} {d__law_low : FuncData} (G__law_low : Ent P wd w mg base "_law_low" st_law_low a__law_low d__law_low 1 ["high", "deep"] f_law_low) :
    Ent P wd w mg base "_law_mul" st_law_mul ad fd 2 ["left", "right"] f_law_mul :=
  ⟨fn_D F sc__law_mul rfl rfl fun cdv A outer s H E hr => by
    have TK := takes_of (X := cxOf (L2.CX P wd) P wd w.K mg base N_law_mul "_law_mul" (defScope st_law_mul) ad cdv A outer s H E) rfl rfl rfl rfl
    have PO := passes_of (X := cxOf (L2.CX P wd) P wd w.K mg base N_law_mul "_law_mul" (defScope st_law_mul) ad cdv A outer s H E) rfl
    exact (ds_one (ds_ret (de_callE rfl G__law_low bA__law_low (hr.mono (by decide)) rfl TK (da_cons (de_op opr_mul cov_mul (de_ix rfl (de_var 0 (pv 0)) de_int) (de_ix rfl (de_var 1 (pv 1)) de_int)) (da_cons (de_op opr_mul cov_mul (de_ix rfl (de_var 0 (pv 0)) de_int) (de_ix rfl (de_var 1 (pv 1)) de_int)) da_nil))))), hm, F⟩
def b_law_neg : Sv :=
    (sRet (eTup (aCons (eBin opSub (eC (.int 0)) (eBin opIx (eVar 0) (eC (.int 0)))) (aCons (eBin opIx (eVar 0) (eC (.int 1))) aNil))))
def f_law_neg : ON := runB 1 1 b_law_neg
theorem ok__law_neg {P : Program} {wd : World} {w : Wd} {mg : Str → Option Value} {base : Heap} (T : Tx w mg) {ad : Addr} {fd : FuncData} (hm : mg "_law_neg" = some (.ref ad)) (F : Fun w.K "_law_neg" "_law_neg" st_law_neg ad fd) :
    Ent P wd w mg base "_law_neg" st_law_neg ad fd 1 ["left"] f_law_neg :=
  ⟨fn_D F sc__law_neg rfl rfl fun cdv A outer s H E hr => by
    have TK := takes_of (X := cxOf (L2.CX P wd) P wd w.K mg base N_law_neg "_law_neg" (defScope st_law_neg) ad cdv A outer s H E) rfl rfl rfl rfl
    have PO := passes_of (X := cxOf (L2.CX P wd) P wd w.K mg base N_law_neg "_law_neg" (defScope st_law_neg) ad cdv A outer s H E) rfl
    exact (ds_one (ds_ret (de_tup (da_cons (de_op op_sub cov_sub de_int (de_ix rfl (de_var 0 (pv 0)) de_int)) (da_cons (de_ix rfl (de_var 0 (pv 0)) de_int) da_nil))))), hm, F⟩
def b_law_of : Sv :=
    (sRet (eBin opIx (eVar 1) (eCall f_law_take (aCons (eVar 0) (aCons (eCall bLen (aCons (eVar 1) aNil)) aNil)))))
def f_law_of : ON := runB 2 2 b_law_of
theorem ok__law_of {P : Program} {wd : World} {w : Wd} {mg : Str → Option Value} {base : Heap} (T : Tx w mg) {ad : Addr} {fd : FuncData} (hm : mg "_law_of" = some (.ref ad)) (F : Fun w.K "_law_of" "_law_of" st_law_of ad fd) {a__law_take : Addr} {d__law_take : FuncData} (G__law_take : Ent P wd w mg base "_law_take" st_law_take a__law_take d__law_take 1 ["urn", "low_so"] f_law_take) :
    Ent P wd w mg base "_law_of" st_law_of ad fd 2 ["urn", "some_so"] f_law_of :=
  ⟨fn_D F sc__law_of rfl rfl fun cdv A outer s H E hr => by
    have TK := takes_of (X := cxOf (L2.CX P wd) P wd w.K mg base N_law_of "_law_of" (defScope st_law_of) ad cdv A outer s H E) rfl rfl rfl rfl
    have PO := passes_of (X := cxOf (L2.CX P wd) P wd w.K mg base N_law_of "_law_of" (defScope st_law_of) ad cdv A outer s H E) rfl
    exact (ds_one (ds_ret (de_ix rfl (de_var 1 (pv 1)) (de_callE rfl G__law_take bA__law_take (hr.mono (by decide)) rfl TK (da_cons (de_var 0 (pv 0)) (da_cons (de_callB callr_len cov_len rfl T.n_len (by decide +kernel) (da_cons (de_var 1 (pv 1)) da_nil)) da_nil)))))), hm, F⟩
def b_law_pow : Sv :=
    (sSeq (sSet 2 (eTup (aCons (eC (.int 1)) (aCons (eC (.int 1)) aNil))))
    (sSeq (sFor (iRng (aCons (eVar 1) aNil)) (vName 3) (sSet 2 (eTup (aCons (eBin opMul (eBin opIx (eVar 2) (eC (.int 0))) (eBin opIx (eVar 0) (eC (.int 0)))) (aCons (eBin opMul (eBin opIx (eVar 2) (eC (.int 1))) (eBin opIx (eVar 0) (eC (.int 1)))) aNil)))))
    (sRet (eVar 2))))
def f_law_pow : ON := runB 2 4 b_law_pow
theorem ok__law_pow {P : Program} {wd : World} {w : Wd} {mg : Str → Option Value} {base : Heap} (T : Tx w mg) {ad : Addr} {fd : FuncData} (hm : mg "_law_pow" = some (.ref ad)) (F : Fun w.K "_law_pow" "_law_pow" st_law_pow ad fd) :
    Ent P wd w mg base "_law_pow" st_law_pow ad fd 1 ["left", "size_so"] f_law_pow :=
  ⟨fn_D F sc__law_pow rfl rfl fun cdv A outer s H E hr => by
    have TK := takes_of (X := cxOf (L2.CX P wd) P wd w.K mg base N_law_pow "_law_pow" (defScope st_law_pow) ad cdv A outer s H E) rfl rfl rfl rfl
    have PO := passes_of (X := cxOf (L2.CX P wd) P wd w.K mg base N_law_pow "_law_pow" (defScope st_law_pow) ad cdv A outer s H E) rfl
    exact (ds_cons (ds_set (i := 2) sc__law_pow.nd rfl (by first | exact .inl rfl | exact .inr rfl) (de_tup (da_cons de_int (da_cons de_int da_nil))))
    (ds_cons (ds_for PO rfl (di_rng rfl T.n_range (da_cons (de_var 1 (pv 1)) da_nil)) (dg_name (i := 3) sc__law_pow.nd rfl (by first | exact .inl rfl | exact .inr rfl)) (ds_one (ds_set (i := 2) sc__law_pow.nd rfl (by first | exact .inl rfl | exact .inr rfl) (de_tup (da_cons (de_op opr_mul cov_mul (de_ix rfl (de_var 2 (pv 2)) de_int) (de_ix rfl (de_var 0 (pv 0)) de_int)) (da_cons (de_op opr_mul cov_mul (de_ix rfl (de_var 2 (pv 2)) de_int) (de_ix rfl (de_var 0 (pv 0)) de_int)) da_nil))))))
    (ds_one (ds_ret (de_var 2 (pv 2)))))), hm, F⟩
def b_law_thing : Sv :=
    (sSeq (sPar3 1 2 3 (eCall f_law_take (aCons (eVar 0) (aCons (eC (.int 12)) aNil))) (eBin opSub (eCall f_law_take (aCons (eVar 0) (aCons (eC (.int 40)) aNil))) (eC (.int 20))) (eBin opSub (eCall f_law_take (aCons (eVar 0) (aCons (eC (.int 14)) aNil))) (eC (.int 2))))
    (sSeq (sIf (tstB (eBin opEq (eVar 1) (eC (.int 0)))) (sRet (eCall f_law_of (aCons (eVar 0) (aCons (eLst (aCons (eLst (aCons (eVar 2) (aCons (eVar 3) aNil))) (aCons (eTup (aCons (eVar 2) aNil)) (aCons (eTup (aCons (eVar 2) (aCons (eVar 3) (aCons (eC (.int 1)) aNil)))) (aCons (eTup (aCons (eVar 2) (aCons (eC .non) aNil))) (aCons (eTup (aCons (eBin opEq (eVar 3) (eC (.int 1))) (aCons (eC (.int 1)) aNil))) (aCons (eVar 2) (aCons (eC (.str ("1/2" : Str))) (aCons (eC .non) (aCons (eTup (aCons (eTup (aCons (eVar 2) (aCons (eC (.int 1)) aNil))) (aCons (eVar 3) aNil))) aNil)))))))))) aNil)))) sNil)
    (sRet (eIf (tstB (eBin opLt (eVar 1) (eC (.int 9)))) (eTup (aCons (eVar 2) (aCons (eVar 3) aNil))) (eCall f_law_frac (aCons (eVar 0) (aCons (eC (.bl true)) aNil)))))))
def f_law_thing : ON := runB 1 4 b_law_thing
theorem ok__law_thing {P : Program} {wd : World} {w : Wd} {mg : Str → Option Value} {base : Heap} (T : Tx w mg) {ad : Addr} {fd : FuncData} (hm : mg "_law_thing" = some (.ref ad)) (F : Fun w.K "_law_thing" "_law_thing" st_law_thing ad fd) {a__law_take : Addr} {d__law_take : FuncData} (G__law_take : Ent P wd w mg base "_law_take" st_law_take a__law_take d__law_take 1 ["urn", "low_so"] f_law_take) {a__law_of : Addr} {d__law_of : FuncData} (G__law_of : Ent P wd w mg base "_law_of" st_law_of a__law_of d__law_of 2 ["urn", "some_so"] f_law_of) {a__law_frac : Addr} {d__law_frac : FuncData} (G__law_frac : Ent P wd w mg base "_law_frac" st_law_frac a__law_frac d__law_frac 2 ["urn", "wide_so"] f_law_frac) :
    Ent P wd w mg base "_law_thing" st_law_thing ad fd 3 ["urn"] f_law_thing :=
  ⟨fn_D F sc__law_thing rfl rfl fun cdv A outer s H E hr => by
    have TK := takes_of (X := cxOf (L2.CX P wd) P wd w.K mg base N_law_thing "_law_thing" (defScope st_law_thing) ad cdv A outer s H E) rfl rfl rfl rfl
    have PO := passes_of (X := cxOf (L2.CX P wd) P wd w.K mg base N_law_thing "_law_thing" (defScope st_law_thing) ad cdv A outer s H E) rfl
    exact (ds_cons (ds_par3 (i := 1) (j := 2) (l := 3) rfl sc__law_thing.nd rfl rfl rfl (by decide) (by decide) (by decide) rfl rfl rfl (de_callE rfl G__law_take bA__law_take (hr.mono (by decide)) rfl TK (da_cons (de_var 0 (pv 0)) (da_cons de_int da_nil))) (de_op op_sub cov_sub (de_callE rfl G__law_take bA__law_take (hr.mono (by decide)) rfl TK (da_cons (de_var 0 (pv 0)) (da_cons de_int da_nil))) de_int) (de_op op_sub cov_sub (de_callE rfl G__law_take bA__law_take (hr.mono (by decide)) rfl TK (da_cons (de_var 0 (pv 0)) (da_cons de_int da_nil))) de_int) rfl)
    (ds_cons (ds_if (dt_cmp (op_eqD hr.units) cov_eq (de_var 1 (pv 1)) de_int) (ds_one (ds_ret (de_callE rfl G__law_of bA__law_of (hr.mono (by decide)) rfl TK (da_cons (de_var 0 (pv 0)) (da_cons (de_lst (da_cons (de_lst (da_cons (de_var 2 (pv 2)) (da_cons (de_var 3 (pv 3)) da_nil))) (da_cons (de_tup (da_cons (de_var 2 (pv 2)) da_nil)) (da_cons (de_tup (da_cons (de_var 2 (pv 2)) (da_cons (de_var 3 (pv 3)) (da_cons de_int da_nil)))) (da_cons (de_tup (da_cons (de_var 2 (pv 2)) (da_cons de_non da_nil))) (da_cons (de_tup (da_cons (de_cmp (op_eqD hr.units) cov_eq (de_var 3 (pv 3)) de_int) (da_cons de_int da_nil))) (da_cons (de_var 2 (pv 2)) (da_cons de_str (da_cons de_non (da_cons (de_tup (da_cons (de_tup (da_cons (de_var 2 (pv 2)) (da_cons de_int da_nil))) (da_cons (de_var 3 (pv 3)) da_nil))) da_nil)))))))))) da_nil))))) ds_nil)
    (ds_one (ds_ret (de_if (dt_cmp op_lt (cov_cmpI _) (de_var 1 (pv 1)) de_int) (de_tup (da_cons (de_var 2 (pv 2)) (da_cons (de_var 3 (pv 3)) da_nil))) (de_callE rfl G__law_frac bA__law_frac (hr.mono (by decide)) rfl TK (da_cons (de_var 0 (pv 0)) (da_cons de_bl da_nil)))))))), hm, F⟩
def b_law_right : Sv :=
    (sSeq (sFor (iRng (aCons (eC (.int 1)) aNil)) (vName 1) (sSeq (sSet 2 (eBin opEq (eCall f_law_take (aCons (eVar 0) (aCons (eC (.int 3)) aNil))) (eC (.int 0))))
    (sSeq (sPar 3 4 (eCall f_law_frac (aCons (eVar 0) (aCons (eVar 2) aNil))) (eCall f_law_frac (aCons (eVar 0) (aCons (eOr (eVar 2) (eBin opEq (eCall f_law_take (aCons (eVar 0) (aCons (eC (.int 4)) aNil))) (eC (.int 0)))) aNil))))
    (sSeq (sIf (tstB (eBin opEq (eCall f_law_take (aCons (eVar 0) (aCons (eC (.int 8)) aNil))) (eC (.int 0)))) (sSet 4 (eCall f_law_of (aCons (eVar 0) (aCons (eLst (aCons (eVar 3) (aCons (eCall f_law_neg (aCons (eVar 3) aNil)) (aCons (eTup (aCons (eC (.int 0)) (aCons (eC (.int 1)) aNil))) aNil)))) aNil)))) sNil)
    (sSeq (sSet 5 (eLst (aCons (eCall f_plus (aCons (eVar 3) (aCons (eVar 4) aNil))) (aCons (eCall f_minus (aCons (eVar 3) (aCons (eVar 4) aNil))) (aCons (eCall f_times (aCons (eVar 3) (aCons (eVar 4) aNil))) (aCons (eCall f_is_less (aCons (eVar 3) (aCons (eVar 4) aNil))) (aCons (eCall f_sign_of (aCons (eVar 3) aNil)) (aCons (eCall f_whole (aCons (eBin opIx (eVar 3) (eC (.int 0))) aNil)) aNil))))))))
    (sSeq (sSet 6 (eLst (aCons (eCall f_law_add (aCons (eVar 3) (aCons (eVar 4) aNil))) (aCons (eCall f_law_add (aCons (eVar 3) (aCons (eCall f_law_neg (aCons (eVar 4) aNil)) aNil))) (aCons (eCall f_law_mul (aCons (eVar 3) (aCons (eVar 4) aNil))) aNil)))))
    (sSeq (sSet 7 (eBin opSub (eBin opMul (eBin opIx (eVar 3) (eC (.int 0))) (eBin opIx (eVar 4) (eC (.int 1)))) (eBin opMul (eBin opIx (eVar 4) (eC (.int 0))) (eBin opIx (eVar 3) (eC (.int 1))))))
    (sSeq (sSet 6 (eBin opAdd (eVar 6) (eLst (aCons (eBin opLt (eVar 7) (eC (.int 0))) (aCons (eBin opSub (eCall bInt (aCons (eBin opGt (eBin opIx (eVar 3) (eC (.int 0))) (eC (.int 0))) aNil)) (eCall bInt (aCons (eBin opLt (eBin opIx (eVar 3) (eC (.int 0))) (eC (.int 0))) aNil))) (aCons (eTup (aCons (eBin opIx (eVar 3) (eC (.int 0))) (aCons (eC (.int 1)) aNil))) aNil))))))
    (sSeq (sPar 8 9 (eBin opMul (eBin opSub (eCall f_law_take (aCons (eVar 0) (aCons (eC (.int 2001)) aNil))) (eC (.int 1000))) (eBin opIx (eVar 3) (eC (.int 1)))) (eBin opMul (eBin opSub (eCall f_law_take (aCons (eVar 0) (aCons (eC (.int 2001)) aNil))) (eC (.int 1000))) (eBin opIx (eVar 3) (eC (.int 1)))))
    (sSeq (sSet 5 (eBin opAdd (eVar 5) (eLst (aCons (eCall f_law_heard (aCons (eVar 8) (aCons (eVar 9) (aCons (eC (.int 0)) aNil)))) (aCons (eCall f_law_heard (aCons (eVar 3) (aCons (eVar 4) (aCons (eC (.int 1)) aNil)))) aNil)))))
    (sSeq (sSet 6 (eBin opAdd (eVar 6) (eLst (aCons (eIf (tstB (eBin opNe (eVar 9) (eC (.int 0)))) (eCall f_law_low (aCons (eVar 8) (aCons (eVar 9) aNil))) (eLst (aCons (eC (.str ("unfit" : Str))) (aCons (eC (.bl true)) aNil)))) aNil))))
    (sSeq (sSet 6 (eBin opAdd (eVar 6) (eLst (aCons (eIf (tstB (eBin opNe (eBin opIx (eVar 4) (eC (.int 0))) (eC (.int 0)))) (eCall f_law_mul (aCons (eVar 3) (aCons (eCall f_law_inv (aCons (eVar 4) aNil)) aNil))) (eLst (aCons (eC (.str ("unfit" : Str))) (aCons (eC (.bl true)) aNil)))) aNil))))
    (sSeq (sSet 10 (eBin opSub (eCall f_law_take (aCons (eVar 0) (aCons (eC (.int 121)) aNil))) (eC (.int 60))))
    (sSeq (sExpr (eMeth bAppend (eVar 5) (aCons (eCall f_law_heard (aCons (eVar 3) (aCons (eVar 10) (aCons (eC (.int 2)) aNil)))) aNil)))
    (sSeq (sIf (tAnd2 (tstB (eBin opLt (eVar 10) (eC (.int 0)))) (tstB (eBin opEq (eBin opIx (eVar 3) (eC (.int 0))) (eC (.int 0))))) (sExpr (eMeth bAppend (eVar 6) (aCons (eLst (aCons (eC (.str ("unfit" : Str))) (aCons (eC (.bl true)) aNil))) aNil))) (sExpr (eMeth bAppend (eVar 6) (aCons (eCall f_law_pow (aCons (eIf (tstB (eBin opGe (eVar 10) (eC (.int 0)))) (eVar 3) (eCall f_law_inv (aCons (eVar 3) aNil))) (aCons (eCall bAbs (aCons (eVar 10) aNil)) aNil))) aNil))))
    (sSeq (sFor (iRng (aCons (eC (.int 4)) aNil)) (vName 11) (sSeq (sSet 12 (eCall f_law_thing (aCons (eVar 0) aNil)))
    (sSeq (sExpr (eMeth bAppend (eVar 5) (aCons (eCall f_is_fraction (aCons (eVar 12) aNil)) aNil)))
    (sExpr (eMeth bAppend (eVar 6) (aCons (eCall f_law_is_frac (aCons (eVar 12) aNil)) aNil))))))
    (sIf (tNot1 (tst (eCall (f_law_same 40) (aCons (eVar 5) (aCons (eVar 6) aNil))))) (sRet (eC (.bl false))) sNil)))))))))))))))))
    (sRet (eC (.bl true))))
def f_law_right : ON := runB 1 13 b_law_right
theorem ok__law_right {P : Program} {wd : World} {w : Wd} {mg : Str → Option Value} {base : Heap} (T : Tx w mg) {ad : Addr} {fd : FuncData} (hm : mg "_law_right" = some (.ref ad)) (F : Fun w.K "_law_right" "_law_right" st_law_right ad fd) {a__law_take : Addr} {d__law_take : FuncData} (G__law_take : Ent P wd w mg base "_law_take" st_law_take a__law_take d__law_take 1 ["urn", "low_so"] f_law_take) {a__law_frac : Addr} {d__law_frac : FuncData} (G__law_frac : Ent P wd w mg base "_law_frac" st_law_frac a__law_frac d__law_frac 2 ["urn", "wide_so"] f_law_frac) {a__law_of : Addr} {d__law_of : FuncData} (G__law_of : Ent P wd w mg base "_law_of" st_law_of a__law_of d__law_of 2 ["urn", "some_so"] f_law_of) {a__law_neg : Addr} {d__law_neg : FuncData} (G__law_neg : Ent P wd w mg base "_law_neg" st_law_neg a__law_neg d__law_neg 1 ["left"] f_law_neg) {a_plus : Addr} {d_plus : FuncData} (G_plus : Ent P wd w mg base "plus" st_plus a_plus d_plus 2 ["x", "y"] f_plus) {a_minus : Addr} {d_minus : FuncData} (G_minus : Ent P wd w mg base "minus" st_minus a_minus d_minus 2 ["x", "y"] f_minus) {a_times : Addr} {d_times : FuncData} (G_times : Ent P wd w mg base "times" st_times a_times d_times 2 ["x", "y"] f_times) {a_is_less : Addr} {d_is_less : FuncData} (G_is_less : Ent P wd w mg base "is_less" st_is_less a_is_less d_is_less 1 ["x", "y"] f_is_less) {a_sign_of : Addr} {d_sign_of : FuncData} (G_sign_of : Ent P wd w mg base "sign_of" st_sign_of a_sign_of d_sign_of 1 ["x"] f_sign_of) {a_whole : Addr} {d_whole : FuncData} (G_whole : Ent P wd w mg base "whole" st_whole a_whole d_whole 1 ["number"] f_whole) {a__law_add : Addr} {d__law_add : FuncData} (G__law_add : Ent P wd w mg base "_law_add" st_law_add a__law_add d__law_add 2 ["left", "right"] f_law_add) {a__law_mul : Addr} {d__law_mul : FuncData} (G__law_mul : Ent P wd w mg base "_law_mul" st_law_mul a__law_mul d__law_mul 2 ["left", "right"] f_law_mul) {a__law_heard : Addr} {d__law_heard : FuncData} (G__law_heard : Ent P wd w mg base "_law_heard" st_law_heard a__law_heard d__law_heard 4 ["far", "near", "way_so"] f_law_heard) {a__law_low : Addr} {d__law_low : FuncData} (G__law_low : Ent P wd w mg base "_law_low" st_law_low a__law_low d__law_low 1 ["high", "deep"] f_law_low) {a__law_inv : Addr} {d__law_inv : FuncData} (G__law_inv : Ent P wd w mg base "_law_inv" st_law_inv a__law_inv d__law_inv 2 ["left"] f_law_inv) {a__law_pow : Addr} {d__law_pow : FuncData} (G__law_pow : Ent P wd w mg base "_law_pow" st_law_pow a__law_pow d__law_pow 1 ["left", "size_so"] f_law_pow) {a__law_thing : Addr} {d__law_thing : FuncData} (G__law_thing : Ent P wd w mg base "_law_thing" st_law_thing a__law_thing d__law_thing 3 ["urn"] f_law_thing) {a_is_fraction : Addr} {d_is_fraction : FuncData} (G_is_fraction : Ent P wd w mg base "is_fraction" st_is_fraction a_is_fraction d_is_fraction 2 ["thing"] f_is_fraction) {a__law_is_frac : Addr} {d__law_is_frac : FuncData} (G__law_is_frac : Ent P wd w mg base "_law_is_frac" st_law_is_frac a__law_is_frac d__law_is_frac 2 ["matter"] f_law_is_frac) {a__law_same : Addr} {d__law_same : FuncData} (G__law_same : Ent P wd w mg base "_law_same" st_law_same a__law_same d__law_same 41 ["got", "goal"] (f_law_same 40)) :
    Ent P wd w mg base "_law_right" st_law_right ad fd 42 ["urn"] f_law_right :=
  ⟨fn_D F sc__law_right rfl rfl fun cdv A outer s H E hr => by
    have TK := takes_of (X := cxOf (L2.CX P wd) P wd w.K mg base N_law_right "_law_right" (defScope st_law_right) ad cdv A outer s H E) rfl rfl rfl rfl
    have PO := passes_of (X := cxOf (L2.CX P wd) P wd w.K mg base N_law_right "_law_right" (defScope st_law_right) ad cdv A outer s H E) rfl
    exact (ds_cons (ds_for PO rfl (di_rng rfl T.n_range (da_cons de_int da_nil)) (dg_name (i := 1) sc__law_right.nd rfl (by first | exact .inl rfl | exact .inr rfl)) (ds_cons (ds_set (i := 2) sc__law_right.nd rfl (by first | exact .inl rfl | exact .inr rfl) (de_cmp (op_eqD hr.units) cov_eq (de_callE rfl G__law_take bA__law_take (hr.mono (by decide)) rfl TK (da_cons (de_var 0 (pv 0)) (da_cons de_int da_nil))) de_int))
    (ds_cons (ds_par (i := 3) (j := 4) rfl sc__law_right.nd rfl rfl (by decide) rfl rfl (de_callE rfl G__law_frac bA__law_frac (hr.mono (by decide)) rfl TK (da_cons (de_var 0 (pv 0)) (da_cons (de_var 2 (pv 2)) da_nil))) (de_callE rfl G__law_frac bA__law_frac (hr.mono (by decide)) rfl TK (da_cons (de_var 0 (pv 0)) (da_cons (de_or rfl (de_var 2 (pv 2)) (de_one (de_cmp (op_eqD hr.units) cov_eq (de_callE rfl G__law_take bA__law_take (hr.mono (by decide)) rfl TK (da_cons (de_var 0 (pv 0)) (da_cons de_int da_nil))) de_int))) da_nil))) rfl)
    (ds_cons (ds_if (dt_cmp (op_eqD hr.units) cov_eq (de_callE rfl G__law_take bA__law_take (hr.mono (by decide)) rfl TK (da_cons (de_var 0 (pv 0)) (da_cons de_int da_nil))) de_int) (ds_one (ds_set (i := 4) sc__law_right.nd rfl (by first | exact .inl rfl | exact .inr rfl) (de_callE rfl G__law_of bA__law_of (hr.mono (by decide)) rfl TK (da_cons (de_var 0 (pv 0)) (da_cons (de_lst (da_cons (de_var 3 (pv 3)) (da_cons (de_callE rfl G__law_neg bA__law_neg (hr.mono (by decide)) rfl TK (da_cons (de_var 3 (pv 3)) da_nil)) (da_cons (de_tup (da_cons de_int (da_cons de_int da_nil))) da_nil)))) da_nil))))) ds_nil)
    (ds_cons (ds_set (i := 5) sc__law_right.nd rfl (by first | exact .inl rfl | exact .inr rfl) (de_lst (da_cons (de_callE rfl G_plus bA_plus (hr.mono (by decide)) rfl TK (da_cons (de_var 3 (pv 3)) (da_cons (de_var 4 (pv 4)) da_nil))) (da_cons (de_callE rfl G_minus bA_minus (hr.mono (by decide)) rfl TK (da_cons (de_var 3 (pv 3)) (da_cons (de_var 4 (pv 4)) da_nil))) (da_cons (de_callE rfl G_times bA_times (hr.mono (by decide)) rfl TK (da_cons (de_var 3 (pv 3)) (da_cons (de_var 4 (pv 4)) da_nil))) (da_cons (de_callE rfl G_is_less bA_is_less (hr.mono (by decide)) rfl TK (da_cons (de_var 3 (pv 3)) (da_cons (de_var 4 (pv 4)) da_nil))) (da_cons (de_callE rfl G_sign_of bA_sign_of (hr.mono (by decide)) rfl TK (da_cons (de_var 3 (pv 3)) da_nil)) (da_cons (de_callE rfl G_whole bA_whole (hr.mono (by decide)) rfl TK (da_cons (de_ix rfl (de_var 3 (pv 3)) de_int) da_nil)) da_nil))))))))
    (ds_cons (ds_set (i := 6) sc__law_right.nd rfl (by first | exact .inl rfl | exact .inr rfl) (de_lst (da_cons (de_callE rfl G__law_add bA__law_add (hr.mono (by decide)) rfl TK (da_cons (de_var 3 (pv 3)) (da_cons (de_var 4 (pv 4)) da_nil))) (da_cons (de_callE rfl G__law_add bA__law_add (hr.mono (by decide)) rfl TK (da_cons (de_var 3 (pv 3)) (da_cons (de_callE rfl G__law_neg bA__law_neg (hr.mono (by decide)) rfl TK (da_cons (de_var 4 (pv 4)) da_nil)) da_nil))) (da_cons (de_callE rfl G__law_mul bA__law_mul (hr.mono (by decide)) rfl TK (da_cons (de_var 3 (pv 3)) (da_cons (de_var 4 (pv 4)) da_nil))) da_nil)))))
    (ds_cons (ds_set (i := 7) sc__law_right.nd rfl (by first | exact .inl rfl | exact .inr rfl) (de_op op_sub cov_sub (de_op opr_mul cov_mul (de_ix rfl (de_var 3 (pv 3)) de_int) (de_ix rfl (de_var 4 (pv 4)) de_int)) (de_op opr_mul cov_mul (de_ix rfl (de_var 4 (pv 4)) de_int) (de_ix rfl (de_var 3 (pv 3)) de_int))))
    (ds_cons (ds_set (i := 6) sc__law_right.nd rfl (by first | exact .inl rfl | exact .inr rfl) (de_op opr_add cov_add (de_var 6 (pv 6)) (de_lst (da_cons (de_cmp op_lt (cov_cmpI _) (de_var 7 (pv 7)) de_int) (da_cons (de_op op_sub cov_sub (de_callTy call_int1 cov_int rfl T.n_int (by decide +kernel) (da_cons (de_cmp op_gt (cov_cmpI _) (de_ix rfl (de_var 3 (pv 3)) de_int) de_int) da_nil)) (de_callTy call_int1 cov_int rfl T.n_int (by decide +kernel) (da_cons (de_cmp op_lt (cov_cmpI _) (de_ix rfl (de_var 3 (pv 3)) de_int) de_int) da_nil))) (da_cons (de_tup (da_cons (de_ix rfl (de_var 3 (pv 3)) de_int) (da_cons de_int da_nil))) da_nil))))))
    (ds_cons (ds_par (i := 8) (j := 9) rfl sc__law_right.nd rfl rfl (by decide) rfl rfl (de_op opr_mul cov_mul (de_op op_sub cov_sub (de_callE rfl G__law_take bA__law_take (hr.mono (by decide)) rfl TK (da_cons (de_var 0 (pv 0)) (da_cons de_int da_nil))) de_int) (de_ix rfl (de_var 3 (pv 3)) de_int)) (de_op opr_mul cov_mul (de_op op_sub cov_sub (de_callE rfl G__law_take bA__law_take (hr.mono (by decide)) rfl TK (da_cons (de_var 0 (pv 0)) (da_cons de_int da_nil))) de_int) (de_ix rfl (de_var 3 (pv 3)) de_int)) rfl)
    (ds_cons (ds_set (i := 5) sc__law_right.nd rfl (by first | exact .inl rfl | exact .inr rfl) (de_op opr_add cov_add (de_var 5 (pv 5)) (de_lst (da_cons (de_callE rfl G__law_heard bA__law_heard (hr.mono (by decide)) rfl TK (da_cons (de_var 8 (pv 8)) (da_cons (de_var 9 (pv 9)) (da_cons de_int da_nil)))) (da_cons (de_callE rfl G__law_heard bA__law_heard (hr.mono (by decide)) rfl TK (da_cons (de_var 3 (pv 3)) (da_cons (de_var 4 (pv 4)) (da_cons de_int da_nil)))) da_nil)))))
    (ds_cons (ds_set (i := 6) sc__law_right.nd rfl (by first | exact .inl rfl | exact .inr rfl) (de_op opr_add cov_add (de_var 6 (pv 6)) (de_lst (da_cons (de_if (dt_cmp (op_neD hr.units) cov_ne (de_var 9 (pv 9)) de_int) (de_callE rfl G__law_low bA__law_low (hr.mono (by decide)) rfl TK (da_cons (de_var 8 (pv 8)) (da_cons (de_var 9 (pv 9)) da_nil))) (de_lst (da_cons de_str (da_cons de_bl da_nil)))) da_nil))))
    (ds_cons (ds_set (i := 6) sc__law_right.nd rfl (by first | exact .inl rfl | exact .inr rfl) (de_op opr_add cov_add (de_var 6 (pv 6)) (de_lst (da_cons (de_if (dt_cmp (op_neD hr.units) cov_ne (de_ix rfl (de_var 4 (pv 4)) de_int) de_int) (de_callE rfl G__law_mul bA__law_mul (hr.mono (by decide)) rfl TK (da_cons (de_var 3 (pv 3)) (da_cons (de_callE rfl G__law_inv bA__law_inv (hr.mono (by decide)) rfl TK (da_cons (de_var 4 (pv 4)) da_nil)) da_nil))) (de_lst (da_cons de_str (da_cons de_bl da_nil)))) da_nil))))
    (ds_cons (ds_set (i := 10) sc__law_right.nd rfl (by first | exact .inl rfl | exact .inr rfl) (de_op op_sub cov_sub (de_callE rfl G__law_take bA__law_take (hr.mono (by decide)) rfl TK (da_cons (de_var 0 (pv 0)) (da_cons de_int da_nil))) de_int))
    (ds_cons (ds_expr (de_append rfl (de_var 5 (pv 5)) (da_cons (de_callE rfl G__law_heard bA__law_heard (hr.mono (by decide)) rfl TK (da_cons (de_var 3 (pv 3)) (da_cons (de_var 10 (pv 10)) (da_cons de_int da_nil)))) da_nil)))
    (ds_cons (ds_if (PW.pt (dw_and (dt_cmp op_lt (cov_cmpI _) (de_var 10 (pv 10)) de_int) (dw_and1 (dt_cmp (op_eqD hr.units) cov_eq (de_ix rfl (de_var 3 (pv 3)) de_int) de_int)))) (ds_one (ds_expr (de_append rfl (de_var 6 (pv 6)) (da_cons (de_lst (da_cons de_str (da_cons de_bl da_nil))) da_nil)))) (ds_one (ds_expr (de_append rfl (de_var 6 (pv 6)) (da_cons (de_callE rfl G__law_pow bA__law_pow (hr.mono (by decide)) rfl TK (da_cons (de_if (dt_cmp op_ge (cov_cmpI _) (de_var 10 (pv 10)) de_int) (de_var 3 (pv 3)) (de_callE rfl G__law_inv bA__law_inv (hr.mono (by decide)) rfl TK (da_cons (de_var 3 (pv 3)) da_nil))) (da_cons (de_callB call_abs cov_abs rfl T.n_abs (by decide +kernel) (da_cons (de_var 10 (pv 10)) da_nil)) da_nil))) da_nil)))))
    (ds_cons (ds_for PO rfl (di_rng rfl T.n_range (da_cons de_int da_nil)) (dg_name (i := 11) sc__law_right.nd rfl (by first | exact .inl rfl | exact .inr rfl)) (ds_cons (ds_set (i := 12) sc__law_right.nd rfl (by first | exact .inl rfl | exact .inr rfl) (de_callE rfl G__law_thing bA__law_thing (hr.mono (by decide)) rfl TK (da_cons (de_var 0 (pv 0)) da_nil)))
    (ds_cons (ds_expr (de_append rfl (de_var 5 (pv 5)) (da_cons (de_callE rfl G_is_fraction bA_is_fraction (hr.mono (by decide)) rfl TK (da_cons (de_var 12 (pv 12)) da_nil)) da_nil)))
    (ds_one (ds_expr (de_append rfl (de_var 6 (pv 6)) (da_cons (de_callE rfl G__law_is_frac bA__law_is_frac (hr.mono (by decide)) rfl TK (da_cons (de_var 12 (pv 12)) da_nil)) da_nil)))))))
    (ds_one (ds_if (dt_not (dt_tru rfl (de_callE rfl G__law_same bA__law_same (hr.mono (by decide)) rfl TK (da_cons (de_var 5 (pv 5)) (da_cons (de_var 6 (pv 6)) da_nil))))) (ds_one (ds_ret de_bl)) ds_nil))))))))))))))))))
    (ds_one (ds_ret de_bl))), hm, F⟩
def b_law : Sv :=
    (sSeq (sIf (tNot1 (tst (eCall f_law_by_hand_right aNil))) (sRet (eC (.bl false))) sNil)
    (sSeq (sSet 1 (eCall f_law_cells (aCons (eVar 0) (aCons (eC (.int 3)) aNil))))
    (sRet (eCall bAll (aCons (eLc [2] (iRng (aCons (eCall bLen (aCons (eVar 1) aNil)) aNil)) (vName 2) noTest (eCall f_law_right (aCons (eCall f_law_box (aCons (eVar 1) (aCons (eVar 2) aNil))) aNil))) aNil)))))
def f_law : ON := runB 1 3 b_law
theorem ok_law {P : Program} {wd : World} {w : Wd} {mg : Str → Option Value} {base : Heap} (T : Tx w mg) {ad : Addr} {fd : FuncData} (hm : mg "law" = some (.ref ad)) (F : Fun w.K "law" "law" st_law ad fd) {a__law_by_hand_right : Addr} {d__law_by_hand_right : FuncData} (G__law_by_hand_right : Ent P wd w mg base "_law_by_hand_right" st_law_by_hand_right a__law_by_hand_right d__law_by_hand_right 42 [] f_law_by_hand_right) {a__law_cells : Addr} {d__law_cells : FuncData} (G__law_cells : Ent P wd w mg base "_law_cells" st_law_cells a__law_cells d__law_cells 1 ["script", "top_in"] f_law_cells) {a__law_right : Addr} {d__law_right : FuncData} (G__law_right : Ent P wd w mg base "_law_right" st_law_right a__law_right d__law_right 42 ["urn"] f_law_right) {a__law_box : Addr} {d__law_box : FuncData} (G__law_box : Ent P wd w mg base "_law_box" st_law_box a__law_box d__law_box 1 ["script", "k"] f_law_box) :
    Ent P wd w mg base "law" st_law ad fd 43 ["script"] f_law :=
  ⟨fn_D F sc_law rfl rfl fun cdv A outer s H E hr => by
    have TK := takes_of (X := cxOf (L2.CX P wd) P wd w.K mg base N_law "law" (defScope st_law) ad cdv A outer s H E) rfl rfl rfl rfl
    have PO := passes_of (X := cxOf (L2.CX P wd) P wd w.K mg base N_law "law" (defScope st_law) ad cdv A outer s H E) rfl
    exact (ds_cons (ds_if (dt_not (dt_tru rfl (de_callE0 rfl G__law_by_hand_right bA__law_by_hand_right (hr.mono (by decide)) rfl TK))) (ds_one (ds_ret de_bl)) ds_nil)
    (ds_cons (ds_set (i := 1) sc_law.nd rfl (by first | exact .inl rfl | exact .inr rfl) (de_callE rfl G__law_cells bA__law_cells (hr.mono (by decide)) rfl TK (da_cons (de_var 0 (pv 0)) (da_cons de_int da_nil))))
    (ds_one (ds_ret (de_callB (cr_all rfl) cov_all rfl T.n_all (by decide +kernel) (da_cons (de_lc rfl sc_law.nd (own := [("k", 2)]) (di_rng rfl T.n_range (da_cons (de_callB callr_len cov_len rfl T.n_len (by decide +kernel) (da_cons (de_var 1 (pv 1)) da_nil)) da_nil)) (blkOk_by (N := N_law) (sc := defScope st_law) (by decide +kernel)) (by decide) (fun _ _ _ _ _ => (dg_name (i := 2) sc_law.nd rfl (by first | exact .inl rfl | exact .inr rfl))) (fun _ _ _ _ _ => dts_nil) (fun _ _ _ _ _ => (de_callE rfl G__law_right bA__law_right (hr.mono (by decide)) rfl takes0 (da_cons (de_callE rfl G__law_box bA__law_box (hr.mono (by decide)) rfl takes0 (da_cons (de_var 1 (pv 1)) (da_cons (de_var 2 (pv 2)) da_nil))) da_nil)))) da_nil)))))), hm, F⟩
end G
set_option Elab.async false
set_option linter.all false
set_option maxRecDepth 100000
set_option maxHeartbeats 4000000
namespace G
open PySem Lb
abbrev fr (a b : Int) : D := .tup [.int a, .int b]
local macro_rules | `(tactic| walk_at "dx") => `(tactic| simp only [runB, sSeq, sSet, sRet, sIf, sNil, sExpr, sAsg, sRaise0, sPar, sPar3, eVar, eC, eBin, eUn, eCall, eTup, eIf, eAnd, eOr, eNot, eIsi, aNil, aCons, tst, tstB, tNot1, tAnd2, tOr2, trD, truV, blD,
  R.bind_ok, R.bind_bad, R.bind_exc, R.then_ok, R.then_bad, R.then_exc, opAdd_int, opSub_int, opNeg_int, cmpI_int, opIx_t0, opIx_t1, bGcd_int, bAbs_int, bInt_int, bInt_bl, bLen_tup, decide_true, decide_false, Bool.not_true, Bool.not_false, opEq_int, opNe_int, opEq_bl, opNe_bl,
  List.length_cons, List.length_nil, List.map_cons, List.map_nil, List.replicate, List.cons_append, List.nil_append, List.getElem?_cons_zero, List.getElem?_cons_succ, List.set_cons_zero, List.set_cons_succ, Nat.reduceAdd, Nat.reduceSub, Nat.reduceLeDiff, if_true, if_false, ite_true, ite_false, le_LEN])
abbrev gc (t b : Int) : Int := ((t.natAbs.gcd b.natAbs : Nat) : Int)
def fr2 (x : Int × Int) : D := fr x.1 x.2
theorem lowest_eq {t b : Int} {π : PH} (hb : 0 < b) (h : Bd b 8000) : f_lowest [.int t, .int b] π = .ok (fr2 (lw t b)) π := by
  have hd : divOk (gc t b) = true := Bd.divOk (gcd_posR (Int.ne_of_gt hb)) (bd_gcd (Int.ne_of_gt hb) h) (by decide)
  unfold f_lowest b_lowest
  walk_at "dx"
  simp only [opDiv_ok hd]
  walk_at "dx"
  rfl
theorem fraction_0 {t : Int} {π : PH} : f_fraction [.int t, .int 0] π = .exc ⟨0, none⟩ π := by
  unfold f_fraction b_fraction
  walk_at "dx"
  rfl
theorem fraction_neg {t b : Int} {π : PH} (h : Bd b 8000) (h1 : b < 0) : f_fraction [.int t, .int b] π = .ok (fr2 (lw (-t) (-b))) π := by
  have h0 : b ≠ 0 := by omega
  unfold f_fraction b_fraction
  walk_at "dx"
  simp only [beq_eq_false_iff_ne.mpr h0]
  walk_at "dx"
  simp only [h1, decide_true, lowest_eq (show 0 < -b by omega) h.neg]
  walk_at "dx"
theorem fraction_pos {t b : Int} {π : PH} (h : Bd b 8000) (h1 : 0 < b) : f_fraction [.int t, .int b] π = .ok (fr2 (lw t b)) π := by
  have h0 : b ≠ 0 := by omega
  have h2 : ¬ b < 0 := by omega
  unfold f_fraction b_fraction
  walk_at "dx"
  simp only [beq_eq_false_iff_ne.mpr h0]
  walk_at "dx"
  simp only [h2, decide_false]
  walk_at "dx"
  simp only [lowest_eq h1 h]
  walk_at "dx"
theorem plus_eq {a b c d : Int} {π : PH} (hb : 0 < b) (hd : 0 < d) (A : Bd a 2000) (B : Bd b 2000) (C : Bd c 2000) (D' : Bd d 2000) : f_plus [fr a b, fr c d] π = .ok (fr2 (lw (a * d + c * b) (b * d))) π := by
  unfold f_plus b_plus
  by_cases h : b = d
  · subst h
    walk_at "dx"
    simp only [BEq.rfl]
    simp only [lowest_eq hb (B.mono (by decide))]
    try walk_at "dx"
    rw [lw_cross (t := a * b + c * b) (b := b * b) (u := a + c) (d := b) (Int.mul_pos hb hb) hb (by rw [← Int.add_mul]; simp only [Int.mul_assoc])]
  · walk_at "dx"
    simp only [beq_eq_false_iff_ne.mpr h]
    walk_at "dx"
    simp only [opMul_ok (A.mulOk D' (by decide)), opMul_ok (C.mulOk B (by decide)), opMul_ok (B.mulOk D' (by decide))]
    walk_at "dx"
    simp only [lowest_eq (Int.mul_pos hb hd) ((B.mul D').mono (by decide))]
    walk_at "dx"
theorem minus_eq {a b c d : Int} {π : PH} (hb : 0 < b) (hd : 0 < d) (A : Bd a 2000) (B : Bd b 2000) (C : Bd c 2000) (D' : Bd d 2000) : f_minus [fr a b, fr c d] π = .ok (fr2 (lw (a * d - c * b) (b * d))) π := by
  unfold f_minus b_minus
  walk_at "dx"
  simp only [opMul_ok (A.mulOk D' (by decide)), opMul_ok (C.mulOk B (by decide)), opMul_ok (B.mulOk D' (by decide))]
  walk_at "dx"
  simp only [lowest_eq (Int.mul_pos hb hd) ((B.mul D').mono (by decide))]
  walk_at "dx"
theorem times_eq {a b c d : Int} {π : PH} (hb : 0 < b) (hd : 0 < d) (A : Bd a 2000) (B : Bd b 2000) (C : Bd c 2000) (D' : Bd d 2000) : f_times [fr a b, fr c d] π = .ok (fr2 (lw (a * c) (b * d))) π := by
  unfold f_times b_times
  walk_at "dx"
  simp only [opMul_ok (A.mulOk C (by decide)), opMul_ok (B.mulOk D' (by decide))]
  walk_at "dx"
  simp only [lowest_eq (Int.mul_pos hb hd) ((B.mul D').mono (by decide))]
  walk_at "dx"
theorem over_arg {a b c d : Int} {π : PH} (A : Bd a 2000) (B : Bd b 2000) (C : Bd c 2000) (D' : Bd d 2000) : (aCons (eBin opMul (eBin opIx (eVar 0) (eC (.int 0))) (eBin opIx (eVar 1) (eC (.int 1)))) (aCons (eBin opMul (eBin opIx (eVar 0) (eC (.int 1))) (eBin opIx (eVar 1) (eC (.int 0)))) aNil)) [some (fr a b), some (fr c d)] π = .ok [.int (a * d), .int (b * c)] π := by
  walk_at "dx"
  simp only [opMul_ok (A.mulOk D' (by decide)), opMul_ok (B.mulOk C (by decide))]
  walk_at "dx"
theorem over_ok {a b c d : Int} {π : PH} {x : D} (A : Bd a 2000) (B : Bd b 2000) (C : Bd c 2000) (D' : Bd d 2000) (h : f_fraction [.int (a * d), .int (b * c)] π = .ok x π) : f_over [fr a b, fr c d] π = .ok x π :=
  ex_runB rfl (ex_ret (ex_call (over_arg A B C D') h))
theorem over_exc {a b c d : Int} {π : PH} (A : Bd a 2000) (B : Bd b 2000) (C : Bd c 2000) (D' : Bd d 2000) (h : f_fraction [.int (a * d), .int (b * c)] π = .exc ⟨0, none⟩ π) : f_over [fr a b, fr c d] π = .exc ⟨0, none⟩ π := by
  unfold f_over b_over
  walk_at "dx"
  simp only [opMul_ok (A.mulOk D' (by decide)), opMul_ok (B.mulOk C (by decide))]
  walk_at "dx"
  simp only [h]
  walk_at "dx"
theorem is_less_eq {a b c d : Int} {π : PH} (A : Bd a 2000) (B : Bd b 2000) (C : Bd c 2000) (D' : Bd d 2000) : f_is_less [fr a b, fr c d] π = .ok (.bl (decide (a * d < c * b))) π := by
  unfold f_is_less b_is_less
  walk_at "dx"
  simp only [opMul_ok (A.mulOk D' (by decide)), opMul_ok (C.mulOk B (by decide))]
  walk_at "dx"
theorem sign_of_eq {a b : Int} {π : PH} : f_sign_of [fr a b] π = .ok (.int (if a = 0 then 0 else if a > 0 then 1 else -1)) π := by
  unfold f_sign_of b_sign_of
  by_cases h : a = 0
  · subst h
    walk_at "dx"
    simp
  · by_cases h1 : a > 0
    · have h1' : 0 < a := h1
      rw [if_neg h, if_pos h1]
      walk_at "dx"
      simp only [beq_eq_false_iff_ne.mpr h]
      walk_at "dx"
      simp only [h1', decide_true]
      try walk_at "dx"
    · have h1' : ¬ 0 < a := h1
      rw [if_neg h, if_neg h1]
      walk_at "dx"
      simp only [beq_eq_false_iff_ne.mpr h]
      walk_at "dx"
      simp only [h1', decide_false]
      try walk_at "dx"
theorem whole_eq {a : Int} {π : PH} : f_whole [.int a] π = .ok (fr a 1) π := by
  unfold f_whole b_whole
  walk_at "dx"
end G
set_option Elab.async false
set_option linter.all false
set_option maxRecDepth 100000
set_option maxHeartbeats 4000000
namespace G
open PySem Lb
theorem low_id : f_law_low = hLow := rfl
theorem take_id : f_law_take = hTake := rfl
theorem of_id : f_law_of = hOf := rfl
theorem cells_id : f_law_cells = hCells := rfl
theorem box_id : f_law_box = hBox := rfl
theorem same_id : ∀ k, f_law_same k = hSame k
  | 0 => rfl
  | k + 1 => by unfold f_law_same hSame; rw [same_id k]; rfl
/-! powers -/
theorem pow_half (a : Int) (m : Nat) : (a * a) ^ m = a ^ (2 * m) := by
  rw [Int.pow_mul, show a ^ 2 = a * a by rw [Int.pow_succ, Int.pow_succ, Int.pow_zero, Int.one_mul]]
theorem pow_loop {π : PH} : ∀ (k f : Nat) (a x : Int) (n : Nat) (s t : Nat), n < 2 ^ k → k < f → Bd a s → Bd x t → t + s * (2 ^ (k + 1) - 1) < 499998 → 1 ≤ s →
    ∃ a', whL (tstB (eBin opGt (eVar 1) (eC (.int 0)))) (sSeq (sIf (tst (eBin opAndB (eVar 1) (eC (.int 1)))) (sSet 2 (eBin opMul (eVar 2) (eVar 0))) sNil)
      (sSeq (sSet 0 (eBin opMul (eVar 0) (eVar 0))) (sSet 1 (eBin opShr (eVar 1) (eC (.int 1)))))) f [some (.int a), some (.int n), some (.int x)] π = .nx [some (.int a'), some (.int 0), some (.int (x * a ^ n))] π := by
  intro k
  induction k with
  | zero =>
    intro f a x n s t hn hf A X hb hs
    have : n = 0 := by omega
    subst this
    match f, hf with
    | f + 1, _ =>
      refine ⟨a, ?_⟩
      rw [whL]
      simp only [runB, sSeq, sSet, sRet, sIf, sNil, sExpr, sAsg, sRaise0, sPar, sPar3, sStore, eVar, eC, eBin, eUn, eCall, eTup, eIf, eAnd, eOr, eNot, aNil, aCons, tst, tstB, tNot1, tAnd2, tOr2, trD, truV, blD, R.bind_ok, R.bind_bad, R.bind_exc, R.then_ok, R.then_bad, R.then_exc, opAdd_int, opSub_int, opNeg_int, cmpI_int, opIx_t0, opIx_t1, bGcd_int, bAbs_nat, bInt_int, bInt_tt, bInt_ff, bLen_tup, decide_true, decide_false, Bool.not_true, Bool.not_false, opEq_int, opNe_int, opEq_bl, opNe_bl, List.length_cons, List.length_nil, List.map_cons, List.map_nil, List.replicate, List.cons_append, List.nil_append, List.getElem?_cons_zero, List.getElem?_cons_succ, List.set_cons_zero, List.set_cons_succ, Nat.reduceAdd, Nat.reduceSub, Nat.reduceLeDiff, if_true, if_false, ite_true, ite_false, le_LEN, Int.natCast_zero, Int.lt_irrefl]
      rw [Int.pow_zero, Int.mul_one]
  | succ k ih =>
    intro f a x n s t hn hf A X hb hs
    match f, hf with
    | f + 1, hf =>
      by_cases h0 : n = 0
      · subst h0
        refine ⟨a, ?_⟩
        rw [whL]
        simp only [runB, sSeq, sSet, sRet, sIf, sNil, sExpr, sAsg, sRaise0, sPar, sPar3, sStore, eVar, eC, eBin, eUn, eCall, eTup, eIf, eAnd, eOr, eNot, aNil, aCons, tst, tstB, tNot1, tAnd2, tOr2, trD, truV, blD, R.bind_ok, R.bind_bad, R.bind_exc, R.then_ok, R.then_bad, R.then_exc, opAdd_int, opSub_int, opNeg_int, cmpI_int, opIx_t0, opIx_t1, bGcd_int, bAbs_nat, bInt_int, bInt_tt, bInt_ff, bLen_tup, decide_true, decide_false, Bool.not_true, Bool.not_false, opEq_int, opNe_int, opEq_bl, opNe_bl, List.length_cons, List.length_nil, List.map_cons, List.map_nil, List.replicate, List.cons_append, List.nil_append, List.getElem?_cons_zero, List.getElem?_cons_succ, List.set_cons_zero, List.set_cons_succ, Nat.reduceAdd, Nat.reduceSub, Nat.reduceLeDiff, if_true, if_false, ite_true, ite_false, le_LEN, Int.natCast_zero, Int.lt_irrefl]
        rw [Int.pow_zero, Int.mul_one]
      · have hp : (0 : Int) < (n : Int) := by omega
        have p1 : 2 ^ (k + 2) = 4 * 2 ^ k := by rw [Nat.pow_add]; omega
        have p2 : 2 ^ (k + 1) = 2 * 2 ^ k := by rw [Nat.pow_succ]; omega
        have p3 : 1 ≤ 2 ^ k := Nat.one_le_two_pow
        have q1 : s * (2 ^ (k + 1 + 1) - 1) = s + 2 * s * (2 ^ (k + 1) - 1) := by
          have : 2 ^ (k + 1 + 1) - 1 = 1 + 2 * (2 ^ (k + 1) - 1) := by
            rw [show k + 1 + 1 = k + 2 from rfl, p1, p2]; omega
          rw [this, Nat.mul_add, Nat.mul_one, Nat.mul_comm 2 s, Nat.mul_assoc]
        have q2 : s * 2 ≤ 2 * s * (2 ^ (k + 1) - 1) := by
          have : 1 ≤ 2 ^ (k + 1) - 1 := by omega
          calc s * 2 = 2 * s * 1 := by omega
            _ ≤ _ := Nat.mul_le_mul_left _ this
        have A2 : Bd (a * a) (2 * s) := (A.mul A).mono (by omega)
        have mo : mulOk a a = true := A.mulOk A (by omega)
        have mo2 : mulOk x a = true := X.mulOk A (by omega)
        have hsh : ((n : Nat) : Int) / 2 ^ (1 : Int).toNat = ((n / 2 : Nat) : Int) := by
          show ((n : Nat) : Int) / 2 ^ 1 = _
          omega
        have hk2 : n / 2 < 2 ^ k := by omega
        by_cases hodd : n % 2 = 1
        · obtain ⟨a', e⟩ := ih f (a * a) (x * a) (n / 2) (2 * s) (t + s) hk2 (by omega) A2 (X.mul A) (by omega) (by omega)
          refine ⟨a', ?_⟩
          rw [whL]
          have ho : ((n : Nat) : Int) % 2 = 1 := by omega
          simp only [runB, sSeq, sSet, sRet, sIf, sNil, sExpr, sAsg, sRaise0, sPar, sPar3, sStore, eVar, eC, eBin, eUn, eCall, eTup, eIf, eAnd, eOr, eNot, aNil, aCons, tst, tstB, tNot1, tAnd2, tOr2, trD, truV, blD, R.bind_ok, R.bind_bad, R.bind_exc, R.then_ok, R.then_bad, R.then_exc, opAdd_int, opSub_int, opNeg_int, cmpI_int, opIx_t0, opIx_t1, bGcd_int, bAbs_nat, bInt_int, bInt_tt, bInt_ff, bLen_tup, decide_true, decide_false, Bool.not_true, Bool.not_false, opEq_int, opNe_int, opEq_bl, opNe_bl, List.length_cons, List.length_nil, List.map_cons, List.map_nil, List.replicate, List.cons_append, List.nil_append, List.getElem?_cons_zero, List.getElem?_cons_succ, List.set_cons_zero, List.set_cons_succ, Nat.reduceAdd, Nat.reduceSub, Nat.reduceLeDiff, if_true, if_false, ite_true, ite_false, le_LEN, hp, opAndB, PyProof.Rows.bitAnd_m1, ho, opMul_ok mo, opMul_ok mo2, opShr_ok (show (0 : Int) ≤ 1 by decide), hsh, show ((1 : Int) != 0) = true from rfl, e]
          rw [pow_half, Int.mul_assoc, ← Int.pow_succ', show 2 * (n / 2) + 1 = n by omega]
        · obtain ⟨a', e⟩ := ih f (a * a) x (n / 2) (2 * s) t hk2 (by omega) A2 X (by omega) (by omega)
          refine ⟨a', ?_⟩
          rw [whL]
          have ho : ((n : Nat) : Int) % 2 = 0 := by omega
          simp only [runB, sSeq, sSet, sRet, sIf, sNil, sExpr, sAsg, sRaise0, sPar, sPar3, sStore, eVar, eC, eBin, eUn, eCall, eTup, eIf, eAnd, eOr, eNot, aNil, aCons, tst, tstB, tNot1, tAnd2, tOr2, trD, truV, blD, R.bind_ok, R.bind_bad, R.bind_exc, R.then_ok, R.then_bad, R.then_exc, opAdd_int, opSub_int, opNeg_int, cmpI_int, opIx_t0, opIx_t1, bGcd_int, bAbs_nat, bInt_int, bInt_tt, bInt_ff, bLen_tup, decide_true, decide_false, Bool.not_true, Bool.not_false, opEq_int, opNe_int, opEq_bl, opNe_bl, List.length_cons, List.length_nil, List.map_cons, List.map_nil, List.replicate, List.cons_append, List.nil_append, List.getElem?_cons_zero, List.getElem?_cons_succ, List.set_cons_zero, List.set_cons_succ, Nat.reduceAdd, Nat.reduceSub, Nat.reduceLeDiff, if_true, if_false, ite_true, ite_false, le_LEN, hp, opAndB, PyProof.Rows.bitAnd_m1, ho, opMul_ok mo, opMul_ok mo2, opShr_ok (show (0 : Int) ≤ 1 by decide), hsh, show ((0 : Int) != 0) = false from rfl, e]
          rw [pow_half, show 2 * (n / 2) = n by omega]
theorem number_power_eq {π : PH} {a : Int} {n : Nat} (h : n < 64) (A : Bd a 100) : f_number_power [.int a, .int n] π = .ok (.int (a ^ n)) π := by
  obtain ⟨a', e⟩ := pow_loop (π := π) 6 FU a 1 n 100 1 h (FU_big (by decide)) A (by unfold Bd; decide) (by decide) (by decide)
  rw [Int.one_mul] at e
  have e' : sWhile (tstB (eBin opGt (eVar 1) (eC (.int 0)))) (sSeq (sIf (tst (eBin opAndB (eVar 1) (eC (.int 1)))) (sSet 2 (eBin opMul (eVar 2) (eVar 0))) sNil)
      (sSeq (sSet 0 (eBin opMul (eVar 0) (eVar 0))) (sSet 1 (eBin opShr (eVar 1) (eC (.int 1)))))) [some (.int a), some (.int n), some (.int 1)] π = .nx [some (.int a'), some (.int 0), some (.int (a ^ n))] π := e
  unfold f_number_power b_number_power
  simp only [runB, sSeq, sSet, sRet, sIf, sNil, sExpr, sAsg, sRaise0, sPar, sPar3, sStore, eVar, eC, eBin, eUn, eCall, eTup, eIf, eAnd, eOr, eNot, aNil, aCons, tst, tstB, tNot1, tAnd2, tOr2, trD, truV, blD, R.bind_ok, R.bind_bad, R.bind_exc, R.then_ok, R.then_bad, R.then_exc, opAdd_int, opSub_int, opNeg_int, cmpI_int, opIx_t0, opIx_t1, bGcd_int, bAbs_nat, bInt_int, bInt_tt, bInt_ff, bLen_tup, decide_true, decide_false, Bool.not_true, Bool.not_false, opEq_int, opNe_int, opEq_bl, opNe_bl, List.length_cons, List.length_nil, List.map_cons, List.map_nil, List.replicate, List.cons_append, List.nil_append, List.getElem?_cons_zero, List.getElem?_cons_succ, List.set_cons_zero, List.set_cons_succ, Nat.reduceAdd, Nat.reduceSub, Nat.reduceLeDiff, if_true, if_false, ite_true, ite_false, le_LEN, e']
/-- the power of a quotient -/
theorem power_nn {π : PH} {a b : Int} {k : Nat} (h : k < 64) (A : Bd a 100) (B : Bd b 100) : f_power_of [fr a b, .int k] π = .ok (fr (a ^ k) (b ^ k)) π := by
  have h0 : (0 : Int) ≤ (k : Int) := by omega
  unfold f_power_of b_power_of
  simp only [runB, sSeq, sSet, sRet, sIf, sNil, sExpr, sAsg, sRaise0, sPar, sPar3, sStore, eVar, eC, eBin, eUn, eCall, eTup, eIf, eAnd, eOr, eNot, aNil, aCons, tst, tstB, tNot1, tAnd2, tOr2, trD, truV, blD, R.bind_ok, R.bind_bad, R.bind_exc, R.then_ok, R.then_bad, R.then_exc, opAdd_int, opSub_int, opNeg_int, cmpI_int, opIx_t0, opIx_t1, bGcd_int, bAbs_nat, bInt_int, bInt_tt, bInt_ff, bLen_tup, decide_true, decide_false, Bool.not_true, Bool.not_false, opEq_int, opNe_int, opEq_bl, opNe_bl, List.length_cons, List.length_nil, List.map_cons, List.map_nil, List.replicate, List.cons_append, List.nil_append, List.getElem?_cons_zero, List.getElem?_cons_succ, List.set_cons_zero, List.set_cons_succ, Nat.reduceAdd, Nat.reduceSub, Nat.reduceLeDiff, if_true, if_false, ite_true, ite_false, le_LEN, h0, number_power_eq h A, number_power_eq h B]
theorem power_neg {π : PH} {a b : Int} {k : Nat} (h : k < 64) (hk : 0 < k) (A : Bd a 100) (B : Bd b 100) : (eCall f_fraction (aCons (eCall f_number_power (aCons (eBin opIx (eVar 0) (eC (.int 1))) (aCons (eUn opNeg (eVar 1)) aNil))) (aCons (eCall f_number_power (aCons (eBin opIx (eVar 0) (eC (.int 0))) (aCons (eUn opNeg (eVar 1)) aNil))) aNil))) [some (fr a b), some (.int (-(k : Int)))] π = f_fraction [.int (b ^ k), .int (a ^ k)] π := by
  simp only [runB, sSeq, sSet, sRet, sIf, sNil, sExpr, sAsg, sRaise0, sPar, sPar3, sStore, eVar, eC, eBin, eUn, eCall, eTup, eIf, eAnd, eOr, eNot, aNil, aCons, tst, tstB, tNot1, tAnd2, tOr2, trD, truV, blD, R.bind_ok, R.bind_bad, R.bind_exc, R.then_ok, R.then_bad, R.then_exc, opAdd_int, opSub_int, opNeg_int, cmpI_int, opIx_t0, opIx_t1, bGcd_int, bAbs_nat, bInt_int, bInt_tt, bInt_ff, bLen_tup, decide_true, decide_false, Bool.not_true, Bool.not_false, opEq_int, opNe_int, opEq_bl, opNe_bl, List.length_cons, List.length_nil, List.map_cons, List.map_nil, List.replicate, List.cons_append, List.nil_append, List.getElem?_cons_zero, List.getElem?_cons_succ, List.set_cons_zero, List.set_cons_succ, Nat.reduceAdd, Nat.reduceSub, Nat.reduceLeDiff, if_true, if_false, ite_true, ite_false, le_LEN, Int.neg_neg, number_power_eq h A, number_power_eq h B]
theorem power_neg_ok {π : PH} {a b : Int} {k : Nat} {x : D} (h : k < 64) (hk : 0 < k) (A : Bd a 100) (B : Bd b 100) (e : f_fraction [.int (b ^ k), .int (a ^ k)] π = .ok x π) : f_power_of [fr a b, .int (-(k : Int))] π = .ok x π := by
  have h0 : ¬ (0 : Int) ≤ -(k : Int) := by omega
  unfold f_power_of b_power_of
  simp only [runB, sSeq, sSet, sRet, sIf, sNil, sExpr, sAsg, sRaise0, sPar, sPar3, sStore, eVar, eC, eBin, eUn, eCall, eTup, eIf, eAnd, eOr, eNot, aNil, aCons, tst, tstB, tNot1, tAnd2, tOr2, trD, truV, blD, R.bind_ok, R.bind_bad, R.bind_exc, R.then_ok, R.then_bad, R.then_exc, opAdd_int, opSub_int, opNeg_int, cmpI_int, opIx_t0, opIx_t1, bGcd_int, bAbs_nat, bInt_int, bInt_tt, bInt_ff, bLen_tup, decide_true, decide_false, Bool.not_true, Bool.not_false, opEq_int, opNe_int, opEq_bl, opNe_bl, List.length_cons, List.length_nil, List.map_cons, List.map_nil, List.replicate, List.cons_append, List.nil_append, List.getElem?_cons_zero, List.getElem?_cons_succ, List.set_cons_zero, List.set_cons_succ, Nat.reduceAdd, Nat.reduceSub, Nat.reduceLeDiff, if_true, if_false, ite_true, ite_false, le_LEN, h0, Int.neg_neg, number_power_eq h A, number_power_eq h B, e]
theorem power_neg_exc {π : PH} {a b : Int} {k : Nat} (h : k < 64) (hk : 0 < k) (A : Bd a 100) (B : Bd b 100) (e : f_fraction [.int (b ^ k), .int (a ^ k)] π = .exc ⟨0, none⟩ π) : f_power_of [fr a b, .int (-(k : Int))] π = .exc ⟨0, none⟩ π := by
  have h0 : ¬ (0 : Int) ≤ -(k : Int) := by omega
  unfold f_power_of b_power_of
  simp only [runB, sSeq, sSet, sRet, sIf, sNil, sExpr, sAsg, sRaise0, sPar, sPar3, sStore, eVar, eC, eBin, eUn, eCall, eTup, eIf, eAnd, eOr, eNot, aNil, aCons, tst, tstB, tNot1, tAnd2, tOr2, trD, truV, blD, R.bind_ok, R.bind_bad, R.bind_exc, R.then_ok, R.then_bad, R.then_exc, opAdd_int, opSub_int, opNeg_int, cmpI_int, opIx_t0, opIx_t1, bGcd_int, bAbs_nat, bInt_int, bInt_tt, bInt_ff, bLen_tup, decide_true, decide_false, Bool.not_true, Bool.not_false, opEq_int, opNe_int, opEq_bl, opNe_bl, List.length_cons, List.length_nil, List.map_cons, List.map_nil, List.replicate, List.cons_append, List.nil_append, List.getElem?_cons_zero, List.getElem?_cons_succ, List.set_cons_zero, List.set_cons_succ, Nat.reduceAdd, Nat.reduceSub, Nat.reduceLeDiff, if_true, if_false, ite_true, ite_false, le_LEN, h0, Int.neg_neg, number_power_eq h A, number_power_eq h B, e]
/-! the law's own arithmetic -/
theorem law_low_eq {t b : Int} {π : PH} (hb : b ≠ 0) (h : Bd b 8000) : f_law_low [.int t, .int b] π = .ok (Lb.fr2 (lwS t b)) π := by rw [low_id]; exact low_ok hb h
theorem fr2_id : Lb.fr2 = G.fr2 := rfl
theorem law_add_eq {a b c d : Int} {π : PH} (hb : 0 < b) (hd : 0 < d) (A : Bd a 2000) (B : Bd b 2000) (C : Bd c 2000) (D' : Bd d 2000) : f_law_add [fr a b, fr c d] π = .ok (Lb.fr2 (lw (a * d + c * b) (b * d))) π := by
  have e := law_low_eq (t := a * d + c * b) (b := b * d) (π := π) (Int.ne_of_gt (Int.mul_pos hb hd)) ((B.mul D').mono (by decide))
  have p := Int.mul_pos hb hd
  unfold lwS at e; rw [if_neg (by omega)] at e
  unfold f_law_add b_law_add
  simp only [runB, sSeq, sSet, sRet, sIf, sNil, sExpr, sAsg, sRaise0, sPar, sPar3, sStore, eVar, eC, eBin, eUn, eCall, eTup, eIf, eAnd, eOr, eNot, aNil, aCons, tst, tstB, tNot1, tAnd2, tOr2, trD, truV, blD, R.bind_ok, R.bind_bad, R.bind_exc, R.then_ok, R.then_bad, R.then_exc, opAdd_int, opSub_int, opNeg_int, cmpI_int, opIx_t0, opIx_t1, bGcd_int, bAbs_nat, bInt_int, bInt_tt, bInt_ff, bLen_tup, decide_true, decide_false, Bool.not_true, Bool.not_false, opEq_int, opNe_int, opEq_bl, opNe_bl, List.length_cons, List.length_nil, List.map_cons, List.map_nil, List.replicate, List.cons_append, List.nil_append, List.getElem?_cons_zero, List.getElem?_cons_succ, List.set_cons_zero, List.set_cons_succ, Nat.reduceAdd, Nat.reduceSub, Nat.reduceLeDiff, if_true, if_false, ite_true, ite_false, le_LEN, opMul_ok (A.mulOk D' (by decide)), opMul_ok (C.mulOk B (by decide)), opMul_ok (B.mulOk D' (by decide)), e]
theorem law_mul_eq {a b c d : Int} {π : PH} (hb : 0 < b) (hd : 0 < d) (A : Bd a 2000) (B : Bd b 2000) (C : Bd c 2000) (D' : Bd d 2000) : f_law_mul [fr a b, fr c d] π = .ok (Lb.fr2 (lw (a * c) (b * d))) π := by
  have e := law_low_eq (t := a * c) (b := b * d) (π := π) (Int.ne_of_gt (Int.mul_pos hb hd)) ((B.mul D').mono (by decide))
  have p := Int.mul_pos hb hd
  unfold lwS at e; rw [if_neg (by omega)] at e
  unfold f_law_mul b_law_mul
  simp only [runB, sSeq, sSet, sRet, sIf, sNil, sExpr, sAsg, sRaise0, sPar, sPar3, sStore, eVar, eC, eBin, eUn, eCall, eTup, eIf, eAnd, eOr, eNot, aNil, aCons, tst, tstB, tNot1, tAnd2, tOr2, trD, truV, blD, R.bind_ok, R.bind_bad, R.bind_exc, R.then_ok, R.then_bad, R.then_exc, opAdd_int, opSub_int, opNeg_int, cmpI_int, opIx_t0, opIx_t1, bGcd_int, bAbs_nat, bInt_int, bInt_tt, bInt_ff, bLen_tup, decide_true, decide_false, Bool.not_true, Bool.not_false, opEq_int, opNe_int, opEq_bl, opNe_bl, List.length_cons, List.length_nil, List.map_cons, List.map_nil, List.replicate, List.cons_append, List.nil_append, List.getElem?_cons_zero, List.getElem?_cons_succ, List.set_cons_zero, List.set_cons_succ, Nat.reduceAdd, Nat.reduceSub, Nat.reduceLeDiff, if_true, if_false, ite_true, ite_false, le_LEN, opMul_ok (A.mulOk C (by decide)), opMul_ok (B.mulOk D' (by decide)), e]
theorem law_neg_eq {a b : Int} {π : PH} : f_law_neg [fr a b] π = .ok (fr (0 - a) b) π := by
  unfold f_law_neg b_law_neg
  simp only [runB, sSeq, sSet, sRet, sIf, sNil, sExpr, sAsg, sRaise0, sPar, sPar3, sStore, eVar, eC, eBin, eUn, eCall, eTup, eIf, eAnd, eOr, eNot, aNil, aCons, tst, tstB, tNot1, tAnd2, tOr2, trD, truV, blD, R.bind_ok, R.bind_bad, R.bind_exc, R.then_ok, R.then_bad, R.then_exc, opAdd_int, opSub_int, opNeg_int, cmpI_int, opIx_t0, opIx_t1, bGcd_int, bAbs_nat, bInt_int, bInt_tt, bInt_ff, bLen_tup, decide_true, decide_false, Bool.not_true, Bool.not_false, opEq_int, opNe_int, opEq_bl, opNe_bl, List.length_cons, List.length_nil, List.map_cons, List.map_nil, List.replicate, List.cons_append, List.nil_append, List.getElem?_cons_zero, List.getElem?_cons_succ, List.set_cons_zero, List.set_cons_succ, Nat.reduceAdd, Nat.reduceSub, Nat.reduceLeDiff, if_true, if_false, ite_true, ite_false, le_LEN]
theorem law_inv_eq {a b : Int} {π : PH} (ha : a ≠ 0) (A : Bd a 2000) : f_law_inv [fr a b] π = .ok (Lb.fr2 (lwS b a)) π := by
  have e := law_low_eq (t := b) (b := a) (π := π) ha (A.mono (by decide))
  unfold f_law_inv b_law_inv
  simp only [runB, sSeq, sSet, sRet, sIf, sNil, sExpr, sAsg, sRaise0, sPar, sPar3, sStore, eVar, eC, eBin, eUn, eCall, eTup, eIf, eAnd, eOr, eNot, aNil, aCons, tst, tstB, tNot1, tAnd2, tOr2, trD, truV, blD, R.bind_ok, R.bind_bad, R.bind_exc, R.then_ok, R.then_bad, R.then_exc, opAdd_int, opSub_int, opNeg_int, cmpI_int, opIx_t0, opIx_t1, bGcd_int, bAbs_nat, bInt_int, bInt_tt, bInt_ff, bLen_tup, decide_true, decide_false, Bool.not_true, Bool.not_false, opEq_int, opNe_int, opEq_bl, opNe_bl, List.length_cons, List.length_nil, List.map_cons, List.map_nil, List.replicate, List.cons_append, List.nil_append, List.getElem?_cons_zero, List.getElem?_cons_succ, List.set_cons_zero, List.set_cons_succ, Nat.reduceAdd, Nat.reduceSub, Nat.reduceLeDiff, if_true, if_false, ite_true, ite_false, le_LEN, e]
theorem law_pow_eq {a b : Int} {k : Nat} {π : PH} (hk : k ≤ 60) (A : Bd a 100) (B : Bd b 100) : f_law_pow [fr a b, .int k] π = .ok (fr (a ^ k) (b ^ k)) π := by
  obtain ⟨ρ', π', e, ⟨x, q1, q2⟩⟩ := for_run (src := srcRng 0 k) (tv := vName 3) (body := sSet 2 (eTup (aCons (eBin opMul (eBin opIx (eVar 2) (eC (.int 0))) (eBin opIx (eVar 0) (eC (.int 0)))) (aCons (eBin opMul (eBin opIx (eVar 2) (eC (.int 1))) (eBin opIx (eVar 0) (eC (.int 1)))) aNil))))
    (N := k) (fun i ρ π' => ∃ x, ρ = [some (fr a b), some (.int k), some (fr (a ^ i) (b ^ i)), x] ∧ π' = π)
    (fun ρ π' _ => src_rng_stop)
    (fun i ρ π' hi ⟨x, q1, q2⟩ => by
      subst q1 q2
      have m1 : mulOk (a ^ i) a = true := (A.pow i).mulOk A (by omega)
      have m2 : mulOk (b ^ i) b = true := (B.pow i).mulOk B (by omega)
      refine ⟨_, _, [some (fr a b), some (.int k), some (fr (a ^ (i + 1)) (b ^ (i + 1))), some (.int (0 + i))], _, src_rng_lt hi, rfl, ?_, some (.int (0 + i)), rfl, rfl⟩
      simp only [runB, sSeq, sSet, sRet, sIf, sNil, sExpr, sAsg, sRaise0, sPar, sPar3, sStore, eVar, eC, eBin, eUn, eCall, eTup, eIf, eAnd, eOr, eNot, aNil, aCons, tst, tstB, tNot1, tAnd2, tOr2, trD, truV, blD, R.bind_ok, R.bind_bad, R.bind_exc, R.then_ok, R.then_bad, R.then_exc, opAdd_int, opSub_int, opNeg_int, cmpI_int, opIx_t0, opIx_t1, bGcd_int, bAbs_nat, bInt_int, bInt_tt, bInt_ff, bLen_tup, decide_true, decide_false, Bool.not_true, Bool.not_false, opEq_int, opNe_int, opEq_bl, opNe_bl, List.length_cons, List.length_nil, List.map_cons, List.map_nil, List.replicate, List.cons_append, List.nil_append, List.getElem?_cons_zero, List.getElem?_cons_succ, List.set_cons_zero, List.set_cons_succ, Nat.reduceAdd, Nat.reduceSub, Nat.reduceLeDiff, if_true, if_false, ite_true, ite_false, le_LEN, opMul_ok m1, opMul_ok m2, Int.pow_succ])
    FU 0 [some (fr a b), some (.int k), some (fr 1 1), none] π ⟨none, by rw [Int.pow_zero, Int.pow_zero], rfl⟩ (Nat.zero_le _) (FU_big (by omega))
  subst q1 q2
  have er : iRng (aCons (eVar 1) aNil) [some (fr a b), some (.int k), some (fr 1 1), none] π' = .ok (srcRng 0 k) π' :=
    iRng_ok (j := (k : Nat)) (ex_cons rfl ex_nil) (smallI_of (by omega) (by omega))
  refine ex_runB rfl (ex_seq (ex_set (d := fr 1 1) (π1 := π') ?_) (ex_seq (ex_for er e) (ex_ret rfl)))
  simp only [runB, sSeq, sSet, sRet, sIf, sNil, sExpr, sAsg, sRaise0, sPar, sPar3, sStore, eVar, eC, eBin, eUn, eCall, eTup, eIf, eAnd, eOr, eNot, aNil, aCons, tst, tstB, tNot1, tAnd2, tOr2, trD, truV, blD, R.bind_ok, R.bind_bad, R.bind_exc, R.then_ok, R.then_bad, R.then_exc, opAdd_int, opSub_int, opNeg_int, cmpI_int, opIx_t0, opIx_t1, bGcd_int, bAbs_nat, bInt_int, bInt_tt, bInt_ff, bLen_tup, decide_true, decide_false, Bool.not_true, Bool.not_false, opEq_int, opNe_int, opEq_bl, opNe_bl, List.length_cons, List.length_nil, List.map_cons, List.map_nil, List.replicate, List.cons_append, List.nil_append, List.getElem?_cons_zero, List.getElem?_cons_succ, List.set_cons_zero, List.set_cons_succ, Nat.reduceAdd, Nat.reduceSub, Nat.reduceLeDiff, if_true, if_false, ite_true, ite_false, le_LEN]
end G
set_option Elab.async false
set_option linter.all false
set_option maxRecDepth 100000
set_option maxHeartbeats 4000000
namespace G
open PySem Lb
/-! values of quotients -/
theorem lwS_eq {t b p q : Int} (hb : b ≠ 0) (h : Frac p q) (e : p * b = t * q) : lwS t b = (p, q) := by
  unfold lwS
  split
  · exact lw_eq (by omega) h (by rw [Int.mul_neg, Int.neg_mul, e])
  · exact lw_eq (by omega) h e
theorem lwS_frac {t b : Int} (hb : b ≠ 0) : Frac (lwS t b).1 (lwS t b).2 ∧ (lwS t b).1 * b = t * (lwS t b).2 := by
  unfold lwS
  split
  · obtain ⟨h1, h2⟩ := lw_frac (t := -t) (b := -b) (by omega)
    exact ⟨h1, by rw [Int.mul_neg, Int.neg_mul] at h2; omega⟩
  · exact lw_frac (by omega)
theorem lwS_pow {a b : Int} (ha : a ≠ 0) (k : Nat) : lwS (b ^ k) (a ^ k) = ((lwS b a).1 ^ k, (lwS b a).2 ^ k) := by
  obtain ⟨h1, h2⟩ := lwS_frac (t := b) ha
  refine lwS_eq (Int.pow_ne_zero ha) (frac_pow h1 k) ?_
  rw [← Int.mul_pow, h2, Int.mul_pow]
theorem lwS_over {a b c d : Int} (hb : 0 < b) (hc : c ≠ 0) : lwS (a * d) (b * c) = lw (a * (lwS d c).1) (b * (lwS d c).2) := by
  obtain ⟨h1, h2⟩ := lwS_frac (t := d) hc
  generalize lwS d c = x at h1 h2
  obtain ⟨p, q⟩ := x
  simp only at h1 h2 ⊢
  obtain ⟨h3, h4⟩ := lw_frac (t := a * p) (b := b * q) (Int.mul_pos hb h1.1)
  generalize lw (a * p) (b * q) = y at h3 h4 ⊢
  obtain ⟨P, Q⟩ := y
  simp only at h3 h4
  refine lwS_eq (Int.mul_ne_zero (Int.ne_of_gt hb) hc) h3 ?_
  have hq := h1.1
  have : (P * (b * c)) * q = ((a * d) * Q) * q := by
    have e1 : (P * (b * c)) * q = (P * (b * q)) * c := by simp only [Int.mul_assoc, Int.mul_left_comm, Int.mul_comm]
    have e2 : (a * p * Q) * c = (a * Q) * (p * c) := by simp only [Int.mul_assoc, Int.mul_left_comm, Int.mul_comm]
    have e3 : ((a * d) * Q) * q = (a * Q) * (d * q) := by simp only [Int.mul_assoc, Int.mul_left_comm, Int.mul_comm]
    rw [e1, h4, e2, h2, e3]
  exact Int.eq_of_mul_eq_mul_right (Int.ne_of_gt hq) this
theorem lwS_bd {t b : Int} {k : Nat} (h1 : Bd t k) (h2 : Bd b k) : Bd (lwS t b).1 k ∧ Bd (lwS t b).2 k := by
  unfold lwS lw
  split
  · exact ⟨h1.neg.div, h2.neg.div⟩
  · exact ⟨h1.div, h2.div⟩
theorem frac_val {t b : Int} {π : PH} (h : Bd b 8000) (hb : b ≠ 0) : f_fraction [.int t, .int b] π = .ok (Lb.fr2 (lwS t b)) π := by
  by_cases h1 : b < 0
  · rw [fraction_neg h h1]; unfold lwS; rw [if_pos h1]; rfl
  · rw [fraction_pos h (by omega)]; unfold lwS; rw [if_neg h1]; rfl
/-! what is heard -/
abbrev U : PO := .lst [.str ("unfit" : Str), .bl true]
def Va (π : PH) (M : List Nat) : Option (Int × Int) → D → Prop
  | some v, p => p = Lb.fr2 v
  | none, p => ∃ n, p = .ref n ∧ π[n]? = some U ∧ n ∉ M
theorem Va.keep {π π' : PH} {M : List Nat} {v : Option (Int × Int)} {p : D} (h : Va π M v p) (f : Fr M π π') : Va π' M v p := by
  cases v with
  | some v => exact h
  | none => obtain ⟨n, e, h1, h2⟩ := h; exact ⟨n, e, f n _ h2 h1, h2⟩
theorem Va.more {π : PH} {M : List Nat} {g : Nat} {v : Option (Int × Int)} {p : D} (h : Va π M v p) (hg : π.length ≤ g) : Va π (g :: M) v p := by
  cases v with
  | some v => exact h
  | none => obtain ⟨n, e, h1, h2⟩ := h; exact ⟨n, e, h1, by rw [List.mem_cons]; rintro (q | q); have := lt_of_at h1; omega; exact h2 q⟩
theorem Va.sm {π : PH} {M : List Nat} {v : Option (Int × Int)} {p q : D} (h : Va π M v p) (h' : Va π M v q) : Sm π M 4 p q := by
  cases v with
  | some v => rw [h, h']; exact sm_pair.to (by decide)
  | none =>
    obtain ⟨n, rfl, h1, h2⟩ := h
    obtain ⟨m, rfl, h3, h4⟩ := h'
    refine .lst 3 n m _ _ h1 h3 h2 h4 rfl (show 2 ≤ LEN by decide) fun i x y e1 e2 => ?_
    rw [e1] at e2; cases e2
    match i, e1 with
    | 0, e1 => cases e1; exact .str 2 _ (by decide +kernel)
    | 1, e1 => cases e1; exact .bl 2 _
    | i + 2, e1 => simp at e1
theorem va_new {π : PH} {M : List Nat} (hM : ∀ i ∈ M, i < π.length) : Va (π ++ [U]) M none (.ref π.length) := ⟨_, rfl, at_len, fun h => Nat.lt_irrefl _ (hM _ h)⟩
theorem heard_ok {π : PH} {x y v : D} : f_fraction [x, y] π = .ok v π → f_law_heard [x, y, .int 0] π = .ok v π := by
  intro h
  unfold f_law_heard b_law_heard sTryAs
  simp only [runB, sSeq, sSet, sRet, sIf, sNil, sExpr, sAsg, sRaise0, sPar, sPar3, sStore, eVar, eC, eBin, eUn, eCall, eTup, eIf, eAnd, eOr, eNot, aNil, aCons, tst, tstB, tNot1, tAnd2, tOr2, trD, truV, blD, R.bind_ok, R.bind_bad, R.bind_exc, R.then_ok, R.then_bad, R.then_exc, opAdd_int, opSub_int, opNeg_int, cmpI_int, opIx_t0, opIx_t1, bGcd_int, bAbs_nat, bInt_int, bInt_tt, bInt_ff, bLen_tup, decide_true, decide_false, Bool.not_true, Bool.not_false, opEq_int, opNe_int, opEq_bl, opNe_bl, List.length_cons, List.length_nil, List.map_cons, List.map_nil, List.replicate, List.cons_append, List.nil_append, List.getElem?_cons_zero, List.getElem?_cons_succ, List.set_cons_zero, List.set_cons_succ, Nat.reduceAdd, Nat.reduceSub, Nat.reduceLeDiff, if_true, if_false, ite_true, ite_false, le_LEN, BEq.rfl, h]
theorem heard_exc {π : PH} {x y : D} : f_fraction [x, y] π = .exc ⟨0, none⟩ π → f_law_heard [x, y, .int 0] π = .ok (.ref π.length) (π ++ [U]) := by
  intro h
  unfold f_law_heard b_law_heard sTryAs
  simp only [runB, sSeq, sSet, sRet, sIf, sNil, sExpr, sAsg, sRaise0, sPar, sPar3, sStore, eVar, eC, eBin, eUn, eCall, eTup, eIf, eAnd, eOr, eNot, aNil, aCons, tst, tstB, tNot1, tAnd2, tOr2, trD, truV, blD, R.bind_ok, R.bind_bad, R.bind_exc, R.then_ok, R.then_bad, R.then_exc, opAdd_int, opSub_int, opNeg_int, cmpI_int, opIx_t0, opIx_t1, bGcd_int, bAbs_nat, bInt_int, bInt_tt, bInt_ff, bLen_tup, decide_true, decide_false, Bool.not_true, Bool.not_false, opEq_int, opNe_int, opEq_bl, opNe_bl, List.length_cons, List.length_nil, List.map_cons, List.map_nil, List.replicate, List.cons_append, List.nil_append, List.getElem?_cons_zero, List.getElem?_cons_succ, List.set_cons_zero, List.set_cons_succ, Nat.reduceAdd, Nat.reduceSub, Nat.reduceLeDiff, if_true, if_false, ite_true, ite_false, le_LEN, BEq.rfl, h, onNone, unslot, eIsErr, eLst, newL]
theorem heard1_ok {π : PH} {x y v : D} : f_over [x, y] π = .ok v π → f_law_heard [x, y, .int 1] π = .ok v π := by
  intro h
  unfold f_law_heard b_law_heard sTryAs
  simp only [runB, sSeq, sSet, sRet, sIf, sNil, sExpr, sAsg, sRaise0, sPar, sPar3, sStore, eVar, eC, eBin, eUn, eCall, eTup, eIf, eAnd, eOr, eNot, aNil, aCons, tst, tstB, tNot1, tAnd2, tOr2, trD, truV, blD, R.bind_ok, R.bind_bad, R.bind_exc, R.then_ok, R.then_bad, R.then_exc, opAdd_int, opSub_int, opNeg_int, cmpI_int, opIx_t0, opIx_t1, bGcd_int, bAbs_nat, bInt_int, bInt_tt, bInt_ff, bLen_tup, decide_true, decide_false, Bool.not_true, Bool.not_false, opEq_int, opNe_int, opEq_bl, opNe_bl, List.length_cons, List.length_nil, List.map_cons, List.map_nil, List.replicate, List.cons_append, List.nil_append, List.getElem?_cons_zero, List.getElem?_cons_succ, List.set_cons_zero, List.set_cons_succ, Nat.reduceAdd, Nat.reduceSub, Nat.reduceLeDiff, if_true, if_false, ite_true, ite_false, le_LEN, show ((1 : Int) == 0) = false from rfl, BEq.rfl, h]
theorem heard1_exc {π : PH} {x y : D} : f_over [x, y] π = .exc ⟨0, none⟩ π → f_law_heard [x, y, .int 1] π = .ok (.ref π.length) (π ++ [U]) := by
  intro h
  unfold f_law_heard b_law_heard sTryAs
  simp only [runB, sSeq, sSet, sRet, sIf, sNil, sExpr, sAsg, sRaise0, sPar, sPar3, sStore, eVar, eC, eBin, eUn, eCall, eTup, eIf, eAnd, eOr, eNot, aNil, aCons, tst, tstB, tNot1, tAnd2, tOr2, trD, truV, blD, R.bind_ok, R.bind_bad, R.bind_exc, R.then_ok, R.then_bad, R.then_exc, opAdd_int, opSub_int, opNeg_int, cmpI_int, opIx_t0, opIx_t1, bGcd_int, bAbs_nat, bInt_int, bInt_tt, bInt_ff, bLen_tup, decide_true, decide_false, Bool.not_true, Bool.not_false, opEq_int, opNe_int, opEq_bl, opNe_bl, List.length_cons, List.length_nil, List.map_cons, List.map_nil, List.replicate, List.cons_append, List.nil_append, List.getElem?_cons_zero, List.getElem?_cons_succ, List.set_cons_zero, List.set_cons_succ, Nat.reduceAdd, Nat.reduceSub, Nat.reduceLeDiff, if_true, if_false, ite_true, ite_false, le_LEN, show ((1 : Int) == 0) = false from rfl, BEq.rfl, h, onNone, unslot, eIsErr, eLst, newL]
theorem heard2_ok {π : PH} {x y v : D} : f_power_of [x, y] π = .ok v π → f_law_heard [x, y, .int 2] π = .ok v π := by
  intro h
  unfold f_law_heard b_law_heard sTryAs
  simp only [runB, sSeq, sSet, sRet, sIf, sNil, sExpr, sAsg, sRaise0, sPar, sPar3, sStore, eVar, eC, eBin, eUn, eCall, eTup, eIf, eAnd, eOr, eNot, aNil, aCons, tst, tstB, tNot1, tAnd2, tOr2, trD, truV, blD, R.bind_ok, R.bind_bad, R.bind_exc, R.then_ok, R.then_bad, R.then_exc, opAdd_int, opSub_int, opNeg_int, cmpI_int, opIx_t0, opIx_t1, bGcd_int, bAbs_nat, bInt_int, bInt_tt, bInt_ff, bLen_tup, decide_true, decide_false, Bool.not_true, Bool.not_false, opEq_int, opNe_int, opEq_bl, opNe_bl, List.length_cons, List.length_nil, List.map_cons, List.map_nil, List.replicate, List.cons_append, List.nil_append, List.getElem?_cons_zero, List.getElem?_cons_succ, List.set_cons_zero, List.set_cons_succ, Nat.reduceAdd, Nat.reduceSub, Nat.reduceLeDiff, if_true, if_false, ite_true, ite_false, le_LEN, show ((2 : Int) == 0) = false from rfl, show ((2 : Int) == 1) = false from rfl, BEq.rfl, h]
theorem heard2_exc {π : PH} {x y : D} : f_power_of [x, y] π = .exc ⟨0, none⟩ π → f_law_heard [x, y, .int 2] π = .ok (.ref π.length) (π ++ [U]) := by
  intro h
  unfold f_law_heard b_law_heard sTryAs
  simp only [runB, sSeq, sSet, sRet, sIf, sNil, sExpr, sAsg, sRaise0, sPar, sPar3, sStore, eVar, eC, eBin, eUn, eCall, eTup, eIf, eAnd, eOr, eNot, aNil, aCons, tst, tstB, tNot1, tAnd2, tOr2, trD, truV, blD, R.bind_ok, R.bind_bad, R.bind_exc, R.then_ok, R.then_bad, R.then_exc, opAdd_int, opSub_int, opNeg_int, cmpI_int, opIx_t0, opIx_t1, bGcd_int, bAbs_nat, bInt_int, bInt_tt, bInt_ff, bLen_tup, decide_true, decide_false, Bool.not_true, Bool.not_false, opEq_int, opNe_int, opEq_bl, opNe_bl, List.length_cons, List.length_nil, List.map_cons, List.map_nil, List.replicate, List.cons_append, List.nil_append, List.getElem?_cons_zero, List.getElem?_cons_succ, List.set_cons_zero, List.set_cons_succ, Nat.reduceAdd, Nat.reduceSub, Nat.reduceLeDiff, if_true, if_false, ite_true, ite_false, le_LEN, show ((2 : Int) == 0) = false from rfl, show ((2 : Int) == 1) = false from rfl, BEq.rfl, h, onNone, unslot, eIsErr, eLst, newL]
abbrev vq (t b : Int) : Option (Int × Int) := if b = 0 then none else some (lwS t b)
theorem heard0 {π : PH} {M : List Nat} {t b : Int} (hM : ∀ i ∈ M, i < π.length) (h : Bd b 8000) : ∃ p π', f_law_heard [.int t, .int b, .int 0] π = .ok p π' ∧ Va π' M (vq t b) p ∧ Fr [] π π' ∧ π.length ≤ π'.length := by
  by_cases hb : b = 0
  · subst hb
    exact ⟨_, _, heard_exc fraction_0, by unfold vq; rw [if_pos rfl]; exact va_new hM, fr_app _ _, by simp⟩
  · exact ⟨_, _, heard_ok (frac_val h hb), by unfold vq; rw [if_neg hb]; rfl, .refl, Nat.le_refl _⟩
theorem heard1 {π : PH} {M : List Nat} {a b c d : Int} (hM : ∀ i ∈ M, i < π.length) (hb : 0 < b) (A : Bd a 2000) (B : Bd b 2000) (C : Bd c 2000) (D' : Bd d 2000) : ∃ p π', f_law_heard [fr a b, fr c d, .int 1] π = .ok p π' ∧ Va π' M (if c = 0 then none else some (lwS (a * d) (b * c))) p ∧ Fr [] π π' ∧ π.length ≤ π'.length := by
  by_cases hc : c = 0
  · subst hc
    exact ⟨_, _, heard1_exc (over_exc A B C D' (by rw [Int.mul_zero]; exact fraction_0)), by rw [if_pos rfl]; exact va_new hM, fr_app _ _, by simp⟩
  · exact ⟨_, _, heard1_ok (over_ok A B C D' (frac_val ((B.mul C).mono (by decide)) (Int.mul_ne_zero (Int.ne_of_gt hb) hc))), by rw [if_neg hc]; rfl, .refl, Nat.le_refl _⟩
def vp (a b z : Int) : Option (Int × Int) := if z < 0 then (if a = 0 then none else some (lwS (b ^ z.natAbs) (a ^ z.natAbs))) else some (a ^ z.natAbs, b ^ z.natAbs)
theorem heard2 {π : PH} {M : List Nat} {a b z : Int} (hM : ∀ i ∈ M, i < π.length) (hb : 0 < b) (A : Bd a 100) (B : Bd b 100) (hz : -64 < z ∧ z < 64) : ∃ p π', f_law_heard [fr a b, .int z, .int 2] π = .ok p π' ∧ Va π' M (vp a b z) p ∧ Fr [] π π' ∧ π.length ≤ π'.length := by
  unfold vp
  by_cases h0 : z < 0
  · obtain ⟨k, rfl⟩ : ∃ k : Nat, z = -(k : Int) := ⟨z.natAbs, by omega⟩
    have hk : k < 64 := by omega
    have hk0 : 0 < k := by omega
    have e : (-(k : Int)).natAbs = k := by omega
    rw [if_pos h0, e]
    by_cases ha : a = 0
    · subst ha
      rw [if_pos rfl]
      exact ⟨_, _, heard2_exc (power_neg_exc hk hk0 A B (by rw [show (0 : Int) ^ k = 0 from Int.zero_pow (by omega)]; exact fraction_0)), va_new hM, fr_app _ _, by simp⟩
    · rw [if_neg ha]
      exact ⟨_, _, heard2_ok (power_neg_ok hk hk0 A B (frac_val ((A.pow k).mono (by omega)) (Int.pow_ne_zero ha))), rfl, .refl, Nat.le_refl _⟩
  · obtain ⟨k, rfl⟩ : ∃ k : Nat, z = (k : Int) := ⟨z.natAbs, by omega⟩
    rw [if_neg h0, Int.natAbs_natCast]
    exact ⟨_, _, heard2_ok (power_nn (by omega) A B), rfl, .refl, Nat.le_refl _⟩
/-- a drawn quotient -/
structure Fq (a b : Int) : Prop where
  f : Frac a b
  A : Bd a 21
  B : Bd b 21
theorem Fq.neg {a b : Int} (h : Fq a b) : Fq (0 - a) b := ⟨⟨h.f.1, by rw [Int.zero_sub, Int.neg_gcd]; exact h.f.2⟩, by rw [Int.zero_sub]; exact h.A.neg, h.B⟩
theorem fq_01 : Fq 0 1 := ⟨⟨by decide, by decide⟩, by unfold Bd; decide, by unfold Bd; decide⟩
theorem law_frac_ok {π : PH} {u n : Nat} {w : Bool} (h : Urn π u n) (hn : n < 1000) : ∃ a b π', f_law_frac [.ref u, .bl w] π = .ok (fr a b) π' ∧ Fq a b ∧ Urn π' u (n + 2) ∧ Fr [u] π π' ∧ π'.length = π.length := by
  have go : ∀ lo hi off : Int, 0 < lo → lo ≤ 2000001 → 0 < hi → hi ≤ 1000000 → 0 ≤ off → off ≤ 1000000 → ∃ t t' π1 π', f_law_take [.ref u, .int lo] π = .ok (.int t) π1 ∧ f_law_take [.ref u, .int hi] π1 = .ok (.int t') π' ∧ f_law_low [.int (t - off), .int (1 + t')] π' = .ok (Lb.fr2 (lw (t - off) (1 + t'))) π' ∧ Fq (lw (t - off) (1 + t')).1 (lw (t - off) (1 + t')).2 ∧ Urn π' u (n + 2) ∧ Fr [u] π π' ∧ π'.length = π.length := by
    intro lo hi off h1 h2 h3 h4 h5 h6
    obtain ⟨t, π1, e1, t0, t1, hu1, fr1, l1⟩ := take_ok (low := lo) h (by omega) h1 (bd_of (by omega) (by omega))
    obtain ⟨t', π2, e2, t0', t1', hu2, fr2, l2⟩ := take_ok (low := hi) hu1 (by omega) h3 (bd_of (by omega) (by omega))
    have b1 : Bd (t - off) 21 := bd_of (by omega) (by omega)
    have b2 : Bd (1 + t') 21 := bd_of (by omega) (by omega)
    have e3 := law_low_eq (t := t - off) (b := 1 + t') (π := π2) (by omega) (b2.mono (by decide))
    unfold lwS at e3; rw [if_neg (by omega)] at e3
    exact ⟨t, t', π1, π2, by rw [take_id]; exact e1, by rw [take_id]; exact e2, e3, ⟨(lw_frac (by omega)).1, b1.div, b2.div⟩, hu2, fr1.trans fr2, by omega⟩
  unfold f_law_frac b_law_frac
  cases w with
  | true =>
    obtain ⟨t, t', π1, π', e1, e2, e3, q, r⟩ := go 2000001 1000000 1000000 (by decide) (by decide) (by decide) (by decide) (by decide) (by decide)
    refine ⟨_, _, π', ?_, q, r⟩
    simp only [runB, sSeq, sSet, sRet, sIf, sNil, sExpr, sAsg, sRaise0, sPar, sPar3, sStore, eVar, eC, eBin, eUn, eCall, eTup, eIf, eAnd, eOr, eNot, aNil, aCons, tst, tstB, tNot1, tAnd2, tOr2, trD, truV, blD, R.bind_ok, R.bind_bad, R.bind_exc, R.then_ok, R.then_bad, R.then_exc, opAdd_int, opSub_int, opNeg_int, cmpI_int, opIx_t0, opIx_t1, bGcd_int, bAbs_nat, bInt_int, bInt_tt, bInt_ff, bLen_tup, decide_true, decide_false, Bool.not_true, Bool.not_false, opEq_int, opNe_int, opEq_bl, opNe_bl, List.length_cons, List.length_nil, List.map_cons, List.map_nil, List.replicate, List.cons_append, List.nil_append, List.getElem?_cons_zero, List.getElem?_cons_succ, List.set_cons_zero, List.set_cons_succ, Nat.reduceAdd, Nat.reduceSub, Nat.reduceLeDiff, if_true, if_false, ite_true, ite_false, le_LEN, e1, e2, e3]
    rfl
  | false =>
    obtain ⟨t, t', π1, π', e1, e2, e3, q, r⟩ := go 13 4 6 (by decide) (by decide) (by decide) (by decide) (by decide) (by decide)
    refine ⟨_, _, π', ?_, q, r⟩
    simp only [runB, sSeq, sSet, sRet, sIf, sNil, sExpr, sAsg, sRaise0, sPar, sPar3, sStore, eVar, eC, eBin, eUn, eCall, eTup, eIf, eAnd, eOr, eNot, aNil, aCons, tst, tstB, tNot1, tAnd2, tOr2, trD, truV, blD, R.bind_ok, R.bind_bad, R.bind_exc, R.then_ok, R.then_bad, R.then_exc, opAdd_int, opSub_int, opNeg_int, cmpI_int, opIx_t0, opIx_t1, bGcd_int, bAbs_nat, bInt_int, bInt_tt, bInt_ff, bLen_tup, decide_true, decide_false, Bool.not_true, Bool.not_false, opEq_int, opNe_int, opEq_bl, opNe_bl, List.length_cons, List.length_nil, List.map_cons, List.map_nil, List.replicate, List.cons_append, List.nil_append, List.getElem?_cons_zero, List.getElem?_cons_succ, List.set_cons_zero, List.set_cons_succ, Nat.reduceAdd, Nat.reduceSub, Nat.reduceLeDiff, if_true, if_false, ite_true, ite_false, le_LEN, e1, e2, e3]
    rfl
end G
set_option Elab.async false
set_option linter.all false
set_option maxRecDepth 100000
set_option maxHeartbeats 4000000
namespace G
open PySem Lb
/-! things -/
theorem eqv_pair {π : PH} {a b c d : Int} : opEq (fr a b) (fr c d) π = .ok (.bl ((a == c) && (b == d))) π := by
  have : eqv π (fr a b) (fr c d) = some ((a == c) && (b == d)) := by
    unfold eqv
    rw [show toPy π 50 (fr a b) = some (.tuple [.int a, .int b]) from rfl, show toPy π 50 (fr c d) = some (.tuple [.int c, .int d]) from rfl]
    simp only
    rw [if_pos (show (SeqAt.shaped (.tuple [.int a, .int b]) && SeqAt.shaped (.tuple [.int c, .int d])) = true by rfl)]
    simp [PyData.eqv, PyData.eqvAll]
  unfold opEq; rw [this]
inductive Th (π : PH) : D → Prop where
  | pair (x y : Int) (h : Bd y 100) : Th π (fr x y)
  | lst (n : Nat) (xs : List D) (h : π[n]? = some (.lst xs)) : Th π (.ref n)
  | one (x : Int) : Th π (.tup [.int x])
  | three (x y z : Int) : Th π (.tup [.int x, .int y, .int z])
  | half (x : Int) : Th π (.tup [.int x, .non])
  | bool (b : Bool) (x : Int) : Th π (.tup [.bl b, .int x])
  | int (x : Int) : Th π (.int x)
  | str (s : Str) : Th π (.str s)
  | non : Th π .non
  | deep (x y z : Int) : Th π (.tup [fr x y, .int z])
theorem isf_pair {x y : Int} (h : Bd y 100) : ∃ b, ∀ π : PH, f_is_fraction [fr x y] π = .ok (.bl b) π ∧ f_law_is_frac [fr x y] π = .ok (.bl b) π := by
  unfold f_is_fraction b_is_fraction f_is_tuple b_is_tuple f_is_number b_is_number f_law_is_frac b_law_is_frac f_law_number b_law_number
  by_cases h1 : 1 ≤ y
  · refine ⟨((Nat.gcd x.natAbs y.natAbs : Nat) : Int) == 1, fun π => ?_⟩
    have e := law_low_eq (t := x) (b := y) (π := π) (by omega) (h.mono (by decide))
    unfold lwS at e; rw [if_neg (by omega)] at e
    have e' : f_law_low [.int x, .int y] π = .ok (fr (lw x y).1 (lw x y).2) π := e
    refine ⟨?_, ?_⟩
    · simp only [runB, sSeq, sSet, sRet, sIf, sNil, sExpr, sAsg, sRaise0, sPar, sPar3, sStore, eVar, eC, eBin, eUn, eCall, eTup, eIf, eAnd, eOr, eNot, aNil, aCons, tst, tstB, tNot1, tAnd2, tOr2, trD, truV, blD, R.bind_ok, R.bind_bad, R.bind_exc, R.then_ok, R.then_bad, R.then_exc, opAdd_int, opSub_int, opNeg_int, cmpI_int, opIx_t0, opIx_t1, bGcd_int, bAbs_nat, bInt_int, bInt_tt, bInt_ff, bLen_tup, decide_true, decide_false, Bool.not_true, Bool.not_false, opEq_int, opNe_int, opEq_bl, opNe_bl, List.length_cons, List.length_nil, List.map_cons, List.map_nil, List.replicate, List.cons_append, List.nil_append, List.getElem?_cons_zero, List.getElem?_cons_succ, List.set_cons_zero, List.set_cons_succ, Nat.reduceAdd, Nat.reduceSub, Nat.reduceLeDiff, if_true, if_false, ite_true, ite_false, le_LEN, eIsi, tyD, isAny, isTy, reduceCtorEq, Bool.or_false, Bool.or_true, BEq.rfl, h1, show (((2 : Nat) : Int) == 2) = true from rfl]
    · have h2 : ¬ y < 1 := by omega
      simp only [runB, sSeq, sSet, sRet, sIf, sNil, sExpr, sAsg, sRaise0, sPar, sPar3, sStore, eVar, eC, eBin, eUn, eCall, eTup, eIf, eAnd, eOr, eNot, aNil, aCons, tst, tstB, tNot1, tAnd2, tOr2, trD, truV, blD, R.bind_ok, R.bind_bad, R.bind_exc, R.then_ok, R.then_bad, R.then_exc, opAdd_int, opSub_int, opNeg_int, cmpI_int, opIx_t0, opIx_t1, bGcd_int, bAbs_nat, bInt_int, bInt_tt, bInt_ff, bLen_tup, decide_true, decide_false, Bool.not_true, Bool.not_false, opEq_int, opNe_int, opEq_bl, opNe_bl, List.length_cons, List.length_nil, List.map_cons, List.map_nil, List.replicate, List.cons_append, List.nil_append, List.getElem?_cons_zero, List.getElem?_cons_succ, List.set_cons_zero, List.set_cons_succ, Nat.reduceAdd, Nat.reduceSub, Nat.reduceLeDiff, if_true, if_false, ite_true, ite_false, le_LEN, eIsi, tyD, isAny, isTy, reduceCtorEq, Bool.or_false, Bool.or_true, BEq.rfl, h2, show (((2 : Nat) : Int) == 2) = true from rfl, e', eqv_pair]
      congr 2
      have g0 := gcd_posR (t := x) (b := y) (by omega)
      have gg : (Int.gcd x y : Int) = ((Nat.gcd x.natAbs y.natAbs : Nat) : Int) := by rw [Int.gcd_eq_natAbs_gcd_natAbs]
      rw [← gg]
      unfold lw
      by_cases hg : (Int.gcd x y : Int) = 1
      · rw [hg]; simp
      · have : ¬ y / (Int.gcd x y : Int) = y := by
          intro q
          have := Int.ediv_lt_self_of_pos_of_ne_one (x := y) (y := (Int.gcd x y : Int)) (by omega) hg
          omega
        rw [beq_eq_false_iff_ne.mpr this, beq_eq_false_iff_ne.mpr hg, Bool.and_false]
  · refine ⟨false, fun π => ⟨?_, ?_⟩⟩
    · simp only [runB, sSeq, sSet, sRet, sIf, sNil, sExpr, sAsg, sRaise0, sPar, sPar3, sStore, eVar, eC, eBin, eUn, eCall, eTup, eIf, eAnd, eOr, eNot, aNil, aCons, tst, tstB, tNot1, tAnd2, tOr2, trD, truV, blD, R.bind_ok, R.bind_bad, R.bind_exc, R.then_ok, R.then_bad, R.then_exc, opAdd_int, opSub_int, opNeg_int, cmpI_int, opIx_t0, opIx_t1, bGcd_int, bAbs_nat, bInt_int, bInt_tt, bInt_ff, bLen_tup, decide_true, decide_false, Bool.not_true, Bool.not_false, opEq_int, opNe_int, opEq_bl, opNe_bl, List.length_cons, List.length_nil, List.map_cons, List.map_nil, List.replicate, List.cons_append, List.nil_append, List.getElem?_cons_zero, List.getElem?_cons_succ, List.set_cons_zero, List.set_cons_succ, Nat.reduceAdd, Nat.reduceSub, Nat.reduceLeDiff, if_true, if_false, ite_true, ite_false, le_LEN, eIsi, tyD, isAny, isTy, reduceCtorEq, Bool.or_false, Bool.or_true, BEq.rfl, h1, show (((2 : Nat) : Int) == 2) = true from rfl]
    · have h2 : y < 1 := by omega
      simp only [runB, sSeq, sSet, sRet, sIf, sNil, sExpr, sAsg, sRaise0, sPar, sPar3, sStore, eVar, eC, eBin, eUn, eCall, eTup, eIf, eAnd, eOr, eNot, aNil, aCons, tst, tstB, tNot1, tAnd2, tOr2, trD, truV, blD, R.bind_ok, R.bind_bad, R.bind_exc, R.then_ok, R.then_bad, R.then_exc, opAdd_int, opSub_int, opNeg_int, cmpI_int, opIx_t0, opIx_t1, bGcd_int, bAbs_nat, bInt_int, bInt_tt, bInt_ff, bLen_tup, decide_true, decide_false, Bool.not_true, Bool.not_false, opEq_int, opNe_int, opEq_bl, opNe_bl, List.length_cons, List.length_nil, List.map_cons, List.map_nil, List.replicate, List.cons_append, List.nil_append, List.getElem?_cons_zero, List.getElem?_cons_succ, List.set_cons_zero, List.set_cons_succ, Nat.reduceAdd, Nat.reduceSub, Nat.reduceLeDiff, if_true, if_false, ite_true, ite_false, le_LEN, eIsi, tyD, isAny, isTy, reduceCtorEq, Bool.or_false, Bool.or_true, BEq.rfl, h2, show (((2 : Nat) : Int) == 2) = true from rfl]
theorem isf_ok {π : PH} {m : D} (h : Th π m) : ∃ b, ∀ π' : PH, (∀ (i : Nat) (xs : List D), π[i]? = some (PO.lst xs) → ∃ ys : List D, π'[i]? = some (PO.lst ys)) → f_is_fraction [m] π' = .ok (.bl b) π' ∧ f_law_is_frac [m] π' = .ok (.bl b) π' := by
  cases h with
  | pair x y h => obtain ⟨b, e⟩ := isf_pair h; exact ⟨b, fun π' _ => e π'⟩
  | lst n xs h =>
    refine ⟨false, fun π' hc => ?_⟩
    obtain ⟨ys, h⟩ := hc n xs h
    refine ⟨?_, ?_⟩
    · unfold f_is_fraction b_is_fraction f_is_tuple b_is_tuple
      simp only [runB, sSeq, sSet, sRet, sIf, sNil, sExpr, sAsg, sRaise0, sPar, sPar3, sStore, eVar, eC, eBin, eUn, eCall, eTup, eIf, eAnd, eOr, eNot, aNil, aCons, tst, tstB, tNot1, tAnd2, tOr2, trD, truV, blD, R.bind_ok, R.bind_bad, R.bind_exc, R.then_ok, R.then_bad, R.then_exc, opAdd_int, opSub_int, opNeg_int, cmpI_int, opIx_t0, opIx_t1, bGcd_int, bAbs_nat, bInt_int, bInt_tt, bInt_ff, bLen_tup, decide_true, decide_false, Bool.not_true, Bool.not_false, opEq_int, opNe_int, opEq_bl, opNe_bl, List.length_cons, List.length_nil, List.map_cons, List.map_nil, List.replicate, List.cons_append, List.nil_append, List.getElem?_cons_zero, List.getElem?_cons_succ, List.set_cons_zero, List.set_cons_succ, Nat.reduceAdd, Nat.reduceSub, Nat.reduceLeDiff, if_true, if_false, ite_true, ite_false, le_LEN, eIsi, tyD, isAny, isTy, reduceCtorEq, Bool.or_false, Bool.or_true, h]
    · unfold f_law_is_frac b_law_is_frac
      simp only [runB, sSeq, sSet, sRet, sIf, sNil, sExpr, sAsg, sRaise0, sPar, sPar3, sStore, eVar, eC, eBin, eUn, eCall, eTup, eIf, eAnd, eOr, eNot, aNil, aCons, tst, tstB, tNot1, tAnd2, tOr2, trD, truV, blD, R.bind_ok, R.bind_bad, R.bind_exc, R.then_ok, R.then_bad, R.then_exc, opAdd_int, opSub_int, opNeg_int, cmpI_int, opIx_t0, opIx_t1, bGcd_int, bAbs_nat, bInt_int, bInt_tt, bInt_ff, bLen_tup, decide_true, decide_false, Bool.not_true, Bool.not_false, opEq_int, opNe_int, opEq_bl, opNe_bl, List.length_cons, List.length_nil, List.map_cons, List.map_nil, List.replicate, List.cons_append, List.nil_append, List.getElem?_cons_zero, List.getElem?_cons_succ, List.set_cons_zero, List.set_cons_succ, Nat.reduceAdd, Nat.reduceSub, Nat.reduceLeDiff, if_true, if_false, ite_true, ite_false, le_LEN, eIsi, tyD, isAny, isTy, reduceCtorEq, Bool.or_false, Bool.or_true, h]
  | one x =>
    refine ⟨false, fun π' hc => ⟨?_, ?_⟩⟩
    · unfold f_is_fraction b_is_fraction f_is_tuple b_is_tuple
      simp only [runB, sSeq, sSet, sRet, sIf, sNil, sExpr, sAsg, sRaise0, sPar, sPar3, sStore, eVar, eC, eBin, eUn, eCall, eTup, eIf, eAnd, eOr, eNot, aNil, aCons, tst, tstB, tNot1, tAnd2, tOr2, trD, truV, blD, R.bind_ok, R.bind_bad, R.bind_exc, R.then_ok, R.then_bad, R.then_exc, opAdd_int, opSub_int, opNeg_int, cmpI_int, opIx_t0, opIx_t1, bGcd_int, bAbs_nat, bInt_int, bInt_tt, bInt_ff, bLen_tup, decide_true, decide_false, Bool.not_true, Bool.not_false, opEq_int, opNe_int, opEq_bl, opNe_bl, List.length_cons, List.length_nil, List.map_cons, List.map_nil, List.replicate, List.cons_append, List.nil_append, List.getElem?_cons_zero, List.getElem?_cons_succ, List.set_cons_zero, List.set_cons_succ, Nat.reduceAdd, Nat.reduceSub, Nat.reduceLeDiff, if_true, if_false, ite_true, ite_false, le_LEN, eIsi, tyD, isAny, isTy, reduceCtorEq, Bool.or_false, Bool.or_true, show (((1 : Nat) : Int) == 2) = false from rfl]
    · unfold f_law_is_frac b_law_is_frac
      simp only [runB, sSeq, sSet, sRet, sIf, sNil, sExpr, sAsg, sRaise0, sPar, sPar3, sStore, eVar, eC, eBin, eUn, eCall, eTup, eIf, eAnd, eOr, eNot, aNil, aCons, tst, tstB, tNot1, tAnd2, tOr2, trD, truV, blD, R.bind_ok, R.bind_bad, R.bind_exc, R.then_ok, R.then_bad, R.then_exc, opAdd_int, opSub_int, opNeg_int, cmpI_int, opIx_t0, opIx_t1, bGcd_int, bAbs_nat, bInt_int, bInt_tt, bInt_ff, bLen_tup, decide_true, decide_false, Bool.not_true, Bool.not_false, opEq_int, opNe_int, opEq_bl, opNe_bl, List.length_cons, List.length_nil, List.map_cons, List.map_nil, List.replicate, List.cons_append, List.nil_append, List.getElem?_cons_zero, List.getElem?_cons_succ, List.set_cons_zero, List.set_cons_succ, Nat.reduceAdd, Nat.reduceSub, Nat.reduceLeDiff, if_true, if_false, ite_true, ite_false, le_LEN, eIsi, tyD, isAny, isTy, reduceCtorEq, Bool.or_false, Bool.or_true, show (((1 : Nat) : Int) == 2) = false from rfl]
  | three x y z =>
    refine ⟨false, fun π' hc => ⟨?_, ?_⟩⟩
    · unfold f_is_fraction b_is_fraction f_is_tuple b_is_tuple
      simp only [runB, sSeq, sSet, sRet, sIf, sNil, sExpr, sAsg, sRaise0, sPar, sPar3, sStore, eVar, eC, eBin, eUn, eCall, eTup, eIf, eAnd, eOr, eNot, aNil, aCons, tst, tstB, tNot1, tAnd2, tOr2, trD, truV, blD, R.bind_ok, R.bind_bad, R.bind_exc, R.then_ok, R.then_bad, R.then_exc, opAdd_int, opSub_int, opNeg_int, cmpI_int, opIx_t0, opIx_t1, bGcd_int, bAbs_nat, bInt_int, bInt_tt, bInt_ff, bLen_tup, decide_true, decide_false, Bool.not_true, Bool.not_false, opEq_int, opNe_int, opEq_bl, opNe_bl, List.length_cons, List.length_nil, List.map_cons, List.map_nil, List.replicate, List.cons_append, List.nil_append, List.getElem?_cons_zero, List.getElem?_cons_succ, List.set_cons_zero, List.set_cons_succ, Nat.reduceAdd, Nat.reduceSub, Nat.reduceLeDiff, if_true, if_false, ite_true, ite_false, le_LEN, eIsi, tyD, isAny, isTy, reduceCtorEq, Bool.or_false, Bool.or_true, show (((3 : Nat) : Int) == 2) = false from rfl]
    · unfold f_law_is_frac b_law_is_frac
      simp only [runB, sSeq, sSet, sRet, sIf, sNil, sExpr, sAsg, sRaise0, sPar, sPar3, sStore, eVar, eC, eBin, eUn, eCall, eTup, eIf, eAnd, eOr, eNot, aNil, aCons, tst, tstB, tNot1, tAnd2, tOr2, trD, truV, blD, R.bind_ok, R.bind_bad, R.bind_exc, R.then_ok, R.then_bad, R.then_exc, opAdd_int, opSub_int, opNeg_int, cmpI_int, opIx_t0, opIx_t1, bGcd_int, bAbs_nat, bInt_int, bInt_tt, bInt_ff, bLen_tup, decide_true, decide_false, Bool.not_true, Bool.not_false, opEq_int, opNe_int, opEq_bl, opNe_bl, List.length_cons, List.length_nil, List.map_cons, List.map_nil, List.replicate, List.cons_append, List.nil_append, List.getElem?_cons_zero, List.getElem?_cons_succ, List.set_cons_zero, List.set_cons_succ, Nat.reduceAdd, Nat.reduceSub, Nat.reduceLeDiff, if_true, if_false, ite_true, ite_false, le_LEN, eIsi, tyD, isAny, isTy, reduceCtorEq, Bool.or_false, Bool.or_true, show (((3 : Nat) : Int) == 2) = false from rfl]
  | half x =>
    refine ⟨false, fun π' hc => ⟨?_, ?_⟩⟩
    · unfold f_is_fraction b_is_fraction f_is_tuple b_is_tuple f_is_number b_is_number
      simp only [runB, sSeq, sSet, sRet, sIf, sNil, sExpr, sAsg, sRaise0, sPar, sPar3, sStore, eVar, eC, eBin, eUn, eCall, eTup, eIf, eAnd, eOr, eNot, aNil, aCons, tst, tstB, tNot1, tAnd2, tOr2, trD, truV, blD, R.bind_ok, R.bind_bad, R.bind_exc, R.then_ok, R.then_bad, R.then_exc, opAdd_int, opSub_int, opNeg_int, cmpI_int, opIx_t0, opIx_t1, bGcd_int, bAbs_nat, bInt_int, bInt_tt, bInt_ff, bLen_tup, decide_true, decide_false, Bool.not_true, Bool.not_false, opEq_int, opNe_int, opEq_bl, opNe_bl, List.length_cons, List.length_nil, List.map_cons, List.map_nil, List.replicate, List.cons_append, List.nil_append, List.getElem?_cons_zero, List.getElem?_cons_succ, List.set_cons_zero, List.set_cons_succ, Nat.reduceAdd, Nat.reduceSub, Nat.reduceLeDiff, if_true, if_false, ite_true, ite_false, le_LEN, eIsi, tyD, isAny, isTy, reduceCtorEq, Bool.or_false, Bool.or_true, show (((2 : Nat) : Int) == 2) = true from rfl]
    · unfold f_law_is_frac b_law_is_frac f_law_number b_law_number
      simp only [runB, sSeq, sSet, sRet, sIf, sNil, sExpr, sAsg, sRaise0, sPar, sPar3, sStore, eVar, eC, eBin, eUn, eCall, eTup, eIf, eAnd, eOr, eNot, aNil, aCons, tst, tstB, tNot1, tAnd2, tOr2, trD, truV, blD, R.bind_ok, R.bind_bad, R.bind_exc, R.then_ok, R.then_bad, R.then_exc, opAdd_int, opSub_int, opNeg_int, cmpI_int, opIx_t0, opIx_t1, bGcd_int, bAbs_nat, bInt_int, bInt_tt, bInt_ff, bLen_tup, decide_true, decide_false, Bool.not_true, Bool.not_false, opEq_int, opNe_int, opEq_bl, opNe_bl, List.length_cons, List.length_nil, List.map_cons, List.map_nil, List.replicate, List.cons_append, List.nil_append, List.getElem?_cons_zero, List.getElem?_cons_succ, List.set_cons_zero, List.set_cons_succ, Nat.reduceAdd, Nat.reduceSub, Nat.reduceLeDiff, if_true, if_false, ite_true, ite_false, le_LEN, eIsi, tyD, isAny, isTy, reduceCtorEq, Bool.or_false, Bool.or_true, show (((2 : Nat) : Int) == 2) = true from rfl]
  | bool b x =>
    refine ⟨false, fun π' hc => ⟨?_, ?_⟩⟩
    · unfold f_is_fraction b_is_fraction f_is_tuple b_is_tuple f_is_number b_is_number
      simp only [runB, sSeq, sSet, sRet, sIf, sNil, sExpr, sAsg, sRaise0, sPar, sPar3, sStore, eVar, eC, eBin, eUn, eCall, eTup, eIf, eAnd, eOr, eNot, aNil, aCons, tst, tstB, tNot1, tAnd2, tOr2, trD, truV, blD, R.bind_ok, R.bind_bad, R.bind_exc, R.then_ok, R.then_bad, R.then_exc, opAdd_int, opSub_int, opNeg_int, cmpI_int, opIx_t0, opIx_t1, bGcd_int, bAbs_nat, bInt_int, bInt_tt, bInt_ff, bLen_tup, decide_true, decide_false, Bool.not_true, Bool.not_false, opEq_int, opNe_int, opEq_bl, opNe_bl, List.length_cons, List.length_nil, List.map_cons, List.map_nil, List.replicate, List.cons_append, List.nil_append, List.getElem?_cons_zero, List.getElem?_cons_succ, List.set_cons_zero, List.set_cons_succ, Nat.reduceAdd, Nat.reduceSub, Nat.reduceLeDiff, if_true, if_false, ite_true, ite_false, le_LEN, eIsi, tyD, isAny, isTy, reduceCtorEq, Bool.or_false, Bool.or_true, show (((2 : Nat) : Int) == 2) = true from rfl]
    · unfold f_law_is_frac b_law_is_frac f_law_number b_law_number
      simp only [runB, sSeq, sSet, sRet, sIf, sNil, sExpr, sAsg, sRaise0, sPar, sPar3, sStore, eVar, eC, eBin, eUn, eCall, eTup, eIf, eAnd, eOr, eNot, aNil, aCons, tst, tstB, tNot1, tAnd2, tOr2, trD, truV, blD, R.bind_ok, R.bind_bad, R.bind_exc, R.then_ok, R.then_bad, R.then_exc, opAdd_int, opSub_int, opNeg_int, cmpI_int, opIx_t0, opIx_t1, bGcd_int, bAbs_nat, bInt_int, bInt_tt, bInt_ff, bLen_tup, decide_true, decide_false, Bool.not_true, Bool.not_false, opEq_int, opNe_int, opEq_bl, opNe_bl, List.length_cons, List.length_nil, List.map_cons, List.map_nil, List.replicate, List.cons_append, List.nil_append, List.getElem?_cons_zero, List.getElem?_cons_succ, List.set_cons_zero, List.set_cons_succ, Nat.reduceAdd, Nat.reduceSub, Nat.reduceLeDiff, if_true, if_false, ite_true, ite_false, le_LEN, eIsi, tyD, isAny, isTy, reduceCtorEq, Bool.or_false, Bool.or_true, show (((2 : Nat) : Int) == 2) = true from rfl]
  | int x =>
    refine ⟨false, fun π' hc => ⟨?_, ?_⟩⟩
    · unfold f_is_fraction b_is_fraction f_is_tuple b_is_tuple
      simp only [runB, sSeq, sSet, sRet, sIf, sNil, sExpr, sAsg, sRaise0, sPar, sPar3, sStore, eVar, eC, eBin, eUn, eCall, eTup, eIf, eAnd, eOr, eNot, aNil, aCons, tst, tstB, tNot1, tAnd2, tOr2, trD, truV, blD, R.bind_ok, R.bind_bad, R.bind_exc, R.then_ok, R.then_bad, R.then_exc, opAdd_int, opSub_int, opNeg_int, cmpI_int, opIx_t0, opIx_t1, bGcd_int, bAbs_nat, bInt_int, bInt_tt, bInt_ff, bLen_tup, decide_true, decide_false, Bool.not_true, Bool.not_false, opEq_int, opNe_int, opEq_bl, opNe_bl, List.length_cons, List.length_nil, List.map_cons, List.map_nil, List.replicate, List.cons_append, List.nil_append, List.getElem?_cons_zero, List.getElem?_cons_succ, List.set_cons_zero, List.set_cons_succ, Nat.reduceAdd, Nat.reduceSub, Nat.reduceLeDiff, if_true, if_false, ite_true, ite_false, le_LEN, eIsi, tyD, isAny, isTy, reduceCtorEq, Bool.or_false, Bool.or_true]
    · unfold f_law_is_frac b_law_is_frac
      simp only [runB, sSeq, sSet, sRet, sIf, sNil, sExpr, sAsg, sRaise0, sPar, sPar3, sStore, eVar, eC, eBin, eUn, eCall, eTup, eIf, eAnd, eOr, eNot, aNil, aCons, tst, tstB, tNot1, tAnd2, tOr2, trD, truV, blD, R.bind_ok, R.bind_bad, R.bind_exc, R.then_ok, R.then_bad, R.then_exc, opAdd_int, opSub_int, opNeg_int, cmpI_int, opIx_t0, opIx_t1, bGcd_int, bAbs_nat, bInt_int, bInt_tt, bInt_ff, bLen_tup, decide_true, decide_false, Bool.not_true, Bool.not_false, opEq_int, opNe_int, opEq_bl, opNe_bl, List.length_cons, List.length_nil, List.map_cons, List.map_nil, List.replicate, List.cons_append, List.nil_append, List.getElem?_cons_zero, List.getElem?_cons_succ, List.set_cons_zero, List.set_cons_succ, Nat.reduceAdd, Nat.reduceSub, Nat.reduceLeDiff, if_true, if_false, ite_true, ite_false, le_LEN, eIsi, tyD, isAny, isTy, reduceCtorEq, Bool.or_false, Bool.or_true]
  | str s =>
    refine ⟨false, fun π' hc => ⟨?_, ?_⟩⟩
    · unfold f_is_fraction b_is_fraction f_is_tuple b_is_tuple
      simp only [runB, sSeq, sSet, sRet, sIf, sNil, sExpr, sAsg, sRaise0, sPar, sPar3, sStore, eVar, eC, eBin, eUn, eCall, eTup, eIf, eAnd, eOr, eNot, aNil, aCons, tst, tstB, tNot1, tAnd2, tOr2, trD, truV, blD, R.bind_ok, R.bind_bad, R.bind_exc, R.then_ok, R.then_bad, R.then_exc, opAdd_int, opSub_int, opNeg_int, cmpI_int, opIx_t0, opIx_t1, bGcd_int, bAbs_nat, bInt_int, bInt_tt, bInt_ff, bLen_tup, decide_true, decide_false, Bool.not_true, Bool.not_false, opEq_int, opNe_int, opEq_bl, opNe_bl, List.length_cons, List.length_nil, List.map_cons, List.map_nil, List.replicate, List.cons_append, List.nil_append, List.getElem?_cons_zero, List.getElem?_cons_succ, List.set_cons_zero, List.set_cons_succ, Nat.reduceAdd, Nat.reduceSub, Nat.reduceLeDiff, if_true, if_false, ite_true, ite_false, le_LEN, eIsi, tyD, isAny, isTy, reduceCtorEq, Bool.or_false, Bool.or_true]
    · unfold f_law_is_frac b_law_is_frac
      simp only [runB, sSeq, sSet, sRet, sIf, sNil, sExpr, sAsg, sRaise0, sPar, sPar3, sStore, eVar, eC, eBin, eUn, eCall, eTup, eIf, eAnd, eOr, eNot, aNil, aCons, tst, tstB, tNot1, tAnd2, tOr2, trD, truV, blD, R.bind_ok, R.bind_bad, R.bind_exc, R.then_ok, R.then_bad, R.then_exc, opAdd_int, opSub_int, opNeg_int, cmpI_int, opIx_t0, opIx_t1, bGcd_int, bAbs_nat, bInt_int, bInt_tt, bInt_ff, bLen_tup, decide_true, decide_false, Bool.not_true, Bool.not_false, opEq_int, opNe_int, opEq_bl, opNe_bl, List.length_cons, List.length_nil, List.map_cons, List.map_nil, List.replicate, List.cons_append, List.nil_append, List.getElem?_cons_zero, List.getElem?_cons_succ, List.set_cons_zero, List.set_cons_succ, Nat.reduceAdd, Nat.reduceSub, Nat.reduceLeDiff, if_true, if_false, ite_true, ite_false, le_LEN, eIsi, tyD, isAny, isTy, reduceCtorEq, Bool.or_false, Bool.or_true]
  | non =>
    refine ⟨false, fun π' hc => ⟨?_, ?_⟩⟩
    · unfold f_is_fraction b_is_fraction f_is_tuple b_is_tuple
      simp only [runB, sSeq, sSet, sRet, sIf, sNil, sExpr, sAsg, sRaise0, sPar, sPar3, sStore, eVar, eC, eBin, eUn, eCall, eTup, eIf, eAnd, eOr, eNot, aNil, aCons, tst, tstB, tNot1, tAnd2, tOr2, trD, truV, blD, R.bind_ok, R.bind_bad, R.bind_exc, R.then_ok, R.then_bad, R.then_exc, opAdd_int, opSub_int, opNeg_int, cmpI_int, opIx_t0, opIx_t1, bGcd_int, bAbs_nat, bInt_int, bInt_tt, bInt_ff, bLen_tup, decide_true, decide_false, Bool.not_true, Bool.not_false, opEq_int, opNe_int, opEq_bl, opNe_bl, List.length_cons, List.length_nil, List.map_cons, List.map_nil, List.replicate, List.cons_append, List.nil_append, List.getElem?_cons_zero, List.getElem?_cons_succ, List.set_cons_zero, List.set_cons_succ, Nat.reduceAdd, Nat.reduceSub, Nat.reduceLeDiff, if_true, if_false, ite_true, ite_false, le_LEN, eIsi, tyD, isAny, isTy, reduceCtorEq, Bool.or_false, Bool.or_true]
    · unfold f_law_is_frac b_law_is_frac
      simp only [runB, sSeq, sSet, sRet, sIf, sNil, sExpr, sAsg, sRaise0, sPar, sPar3, sStore, eVar, eC, eBin, eUn, eCall, eTup, eIf, eAnd, eOr, eNot, aNil, aCons, tst, tstB, tNot1, tAnd2, tOr2, trD, truV, blD, R.bind_ok, R.bind_bad, R.bind_exc, R.then_ok, R.then_bad, R.then_exc, opAdd_int, opSub_int, opNeg_int, cmpI_int, opIx_t0, opIx_t1, bGcd_int, bAbs_nat, bInt_int, bInt_tt, bInt_ff, bLen_tup, decide_true, decide_false, Bool.not_true, Bool.not_false, opEq_int, opNe_int, opEq_bl, opNe_bl, List.length_cons, List.length_nil, List.map_cons, List.map_nil, List.replicate, List.cons_append, List.nil_append, List.getElem?_cons_zero, List.getElem?_cons_succ, List.set_cons_zero, List.set_cons_succ, Nat.reduceAdd, Nat.reduceSub, Nat.reduceLeDiff, if_true, if_false, ite_true, ite_false, le_LEN, eIsi, tyD, isAny, isTy, reduceCtorEq, Bool.or_false, Bool.or_true]
  | deep x y z =>
    refine ⟨false, fun π' hc => ⟨?_, ?_⟩⟩
    · unfold f_is_fraction b_is_fraction f_is_tuple b_is_tuple f_is_number b_is_number
      simp only [runB, sSeq, sSet, sRet, sIf, sNil, sExpr, sAsg, sRaise0, sPar, sPar3, sStore, eVar, eC, eBin, eUn, eCall, eTup, eIf, eAnd, eOr, eNot, aNil, aCons, tst, tstB, tNot1, tAnd2, tOr2, trD, truV, blD, R.bind_ok, R.bind_bad, R.bind_exc, R.then_ok, R.then_bad, R.then_exc, opAdd_int, opSub_int, opNeg_int, cmpI_int, opIx_t0, opIx_t1, bGcd_int, bAbs_nat, bInt_int, bInt_tt, bInt_ff, bLen_tup, decide_true, decide_false, Bool.not_true, Bool.not_false, opEq_int, opNe_int, opEq_bl, opNe_bl, List.length_cons, List.length_nil, List.map_cons, List.map_nil, List.replicate, List.cons_append, List.nil_append, List.getElem?_cons_zero, List.getElem?_cons_succ, List.set_cons_zero, List.set_cons_succ, Nat.reduceAdd, Nat.reduceSub, Nat.reduceLeDiff, if_true, if_false, ite_true, ite_false, le_LEN, eIsi, tyD, isAny, isTy, reduceCtorEq, Bool.or_false, Bool.or_true, show (((2 : Nat) : Int) == 2) = true from rfl]
    · unfold f_law_is_frac b_law_is_frac f_law_number b_law_number
      simp only [runB, sSeq, sSet, sRet, sIf, sNil, sExpr, sAsg, sRaise0, sPar, sPar3, sStore, eVar, eC, eBin, eUn, eCall, eTup, eIf, eAnd, eOr, eNot, aNil, aCons, tst, tstB, tNot1, tAnd2, tOr2, trD, truV, blD, R.bind_ok, R.bind_bad, R.bind_exc, R.then_ok, R.then_bad, R.then_exc, opAdd_int, opSub_int, opNeg_int, cmpI_int, opIx_t0, opIx_t1, bGcd_int, bAbs_nat, bInt_int, bInt_tt, bInt_ff, bLen_tup, decide_true, decide_false, Bool.not_true, Bool.not_false, opEq_int, opNe_int, opEq_bl, opNe_bl, List.length_cons, List.length_nil, List.map_cons, List.map_nil, List.replicate, List.cons_append, List.nil_append, List.getElem?_cons_zero, List.getElem?_cons_succ, List.set_cons_zero, List.set_cons_succ, Nat.reduceAdd, Nat.reduceSub, Nat.reduceLeDiff, if_true, if_false, ite_true, ite_false, le_LEN, eIsi, tyD, isAny, isTy, reduceCtorEq, Bool.or_false, Bool.or_true, show (((2 : Nat) : Int) == 2) = true from rfl]
theorem take_ok' {π : PH} {u n : Nat} {low : Int} (h : Urn π u n) (hn : n < 1000) (hl : 0 < low) (hb : low ≤ 100000000) : ∃ t π', f_law_take [.ref u, .int low] π = .ok (.int t) π' ∧ 0 ≤ t ∧ t < low ∧ Urn π' u (n + 1) ∧ Fr [u] π π' ∧ π'.length = π.length := by
  rw [take_id]
  exact take_ok h (by omega) hl (bd_of (by omega) (by omega))
theorem _root_.Lb.Urn.app {π : PH} {u n : Nat} {ext : PH} (h : Urn π u n) : Urn (π ++ ext) u n := by
  obtain ⟨a, b, c, h, r⟩ := h
  exact ⟨a, b, c, fr_app (M := []) _ _ _ _ List.not_mem_nil h, r⟩
theorem _root_.Lb.Urn.fr {π π' : PH} {u n : Nat} (h : Urn π u n) (f : Fr [] π π') : Urn π' u n := by
  obtain ⟨a, b, c, h, r⟩ := h
  exact ⟨a, b, c, f _ _ List.not_mem_nil h, r⟩
theorem _root_.Lb.Urn.lt {π : PH} {u n : Nat} (h : Urn π u n) : u < π.length := by
  obtain ⟨a, b, c, h, r⟩ := h
  exact lt_of_at h
theorem thing_ok {π : PH} {u n : Nat} (h : Urn π u n) (hn : n < 900) : ∃ m π', f_law_thing [.ref u] π = .ok m π' ∧ Th π' m ∧ (∃ n', n' ≤ n + 5 ∧ Urn π' u n') ∧ Fr [u] π π' ∧ π.length ≤ π'.length := by
  obtain ⟨w, π1, e1, w0, w1, h1, f1, l1⟩ := take_ok' (low := 12) h (by omega) (by decide) (by decide)
  obtain ⟨x, π2, e2, x0, x1, h2, f2, l2⟩ := take_ok' (low := 40) h1 (by omega) (by decide) (by decide)
  obtain ⟨y, π3, e3, y0, y1, h3, f3, l3⟩ := take_ok' (low := 14) h2 (by omega) (by decide) (by decide)
  have f := (f1.trans f2).trans f3
  unfold f_law_thing b_law_thing
  by_cases hw : w = 0
  · have hw' : (w == 0) = true := by rw [hw]; rfl
    let things : List D := [.ref π3.length, .tup [.int (x - 20)], .tup [.int (x - 20), .int (y - 2), .int 1], .tup [.int (x - 20), .non], .tup [.bl (y - 2 == 1), .int 1], .int (x - 20), .str ("1/2" : Str), .non, .tup [fr (x - 20) 1, .int (y - 2)]]
    have hl := h3.lt
    obtain ⟨m, π', e4, ⟨j, hj⟩, h4, f4, l4⟩ := of_ok (π := π3 ++ [.lst [.int (x - 20), .int (y - 2)]] ++ [.lst things]) (v := (π3 ++ [PO.lst [.int (x - 20), .int (y - 2)]]).length) (xs := things) h3.app.app (by omega) at_len (by simp only [List.length_append]; omega) (show 0 < 9 by decide) (show 9 < 2 ^ 50 by decide)
    have el : (eLst (aCons (eLst (aCons (eVar 2) (aCons (eVar 3) aNil))) (aCons (eTup (aCons (eVar 2) aNil)) (aCons (eTup (aCons (eVar 2) (aCons (eVar 3) (aCons (eC (.int 1)) aNil)))) (aCons (eTup (aCons (eVar 2) (aCons (eC .non) aNil))) (aCons (eTup (aCons (eBin opEq (eVar 3) (eC (.int 1))) (aCons (eC (.int 1)) aNil))) (aCons (eVar 2) (aCons (eC (.str ("1/2" : Str))) (aCons (eC .non) (aCons (eTup (aCons (eTup (aCons (eVar 2) (aCons (eC (.int 1)) aNil))) (aCons (eVar 3) aNil))) aNil)))))))))) [some (.ref u), some (.int w), some (.int (x - 20)), some (.int (y - 2))] π3
        = .ok (.ref (π3 ++ [PO.lst [.int (x - 20), .int (y - 2)]]).length) (π3 ++ [.lst [.int (x - 20), .int (y - 2)]] ++ [.lst things]) := by
      refine ex_lst (ex_cons (ex_lst (ex_cons rfl (ex_cons rfl ex_nil)) (show 2 ≤ LEN by decide)) ?_) (show 9 ≤ LEN by decide)
      simp only [runB, sSeq, sSet, sRet, sIf, sNil, sExpr, sAsg, sRaise0, sPar, sPar3, sStore, eVar, eC, eBin, eUn, eCall, eTup, eIf, eAnd, eOr, eNot, aNil, aCons, tst, tstB, tNot1, tAnd2, tOr2, trD, truV, blD, R.bind_ok, R.bind_bad, R.bind_exc, R.then_ok, R.then_bad, R.then_exc, opAdd_int, opSub_int, opNeg_int, cmpI_int, opIx_t0, opIx_t1, bGcd_int, bAbs_nat, bInt_int, bInt_tt, bInt_ff, bLen_tup, decide_true, decide_false, Bool.not_true, Bool.not_false, opEq_int, opNe_int, opEq_bl, opNe_bl, List.length_cons, List.length_nil, List.map_cons, List.map_nil, List.replicate, List.cons_append, List.nil_append, List.getElem?_cons_zero, List.getElem?_cons_succ, List.set_cons_zero, List.set_cons_succ, Nat.reduceAdd, Nat.reduceSub, Nat.reduceLeDiff, if_true, if_false, ite_true, ite_false, le_LEN]
    rw [← of_id] at e4
    refine ⟨m, π', ?_, ?_, ⟨_, ?_, h4⟩, f.trans (((fr_app _ _).trans (fr_app _ _)).trans f4), ?_⟩
    · simp only [runB, sSeq, sSet, sRet, sIf, sNil, sExpr, sAsg, sRaise0, sPar, sPar3, sStore, eVar, eC, eBin, eUn, eCall, eTup, eIf, eAnd, eOr, eNot, aNil, aCons, tst, tstB, tNot1, tAnd2, tOr2, trD, truV, blD, R.bind_ok, R.bind_bad, R.bind_exc, R.then_ok, R.then_bad, R.then_exc, opAdd_int, opSub_int, opNeg_int, cmpI_int, opIx_t0, opIx_t1, bGcd_int, bAbs_nat, bInt_int, bInt_tt, bInt_ff, bLen_tup, decide_true, decide_false, Bool.not_true, Bool.not_false, opEq_int, opNe_int, opEq_bl, opNe_bl, List.length_cons, List.length_nil, List.map_cons, List.map_nil, List.replicate, List.cons_append, List.nil_append, List.getElem?_cons_zero, List.getElem?_cons_succ, List.set_cons_zero, List.set_cons_succ, Nat.reduceAdd, Nat.reduceSub, Nat.reduceLeDiff, if_true, if_false, ite_true, ite_false, le_LEN, e1, e2, e3, hw', el, e4]
    · have hr : π'[π3.length]? = some (.lst [.int (x - 20), .int (y - 2)]) := f4 _ _ (by simp; omega) (fr_app (M := []) _ _ _ _ List.not_mem_nil at_len)
      match j, hj with
      | 0, hj => cases hj; exact .lst _ _ hr
      | 1, hj => cases hj; exact .one _
      | 2, hj => cases hj; exact .three _ _ _
      | 3, hj => cases hj; exact .half _
      | 4, hj => cases hj; exact .bool _ _
      | 5, hj => cases hj; exact .int _
      | 6, hj => cases hj; exact .str _
      | 7, hj => cases hj; exact .non
      | 8, hj => cases hj; exact .deep _ _ _
      | j + 9, hj => simp [things] at hj
    · omega
    · simp only [List.length_append] at l4; omega
  · have hw' : (w == 0) = false := beq_eq_false_iff_ne.mpr hw
    by_cases h9 : w < 9
    · have p1 : -(2 ^ 100 : Int) < -100 := by decide
      have p2 : (100 : Int) < 2 ^ 100 := by decide
      refine ⟨fr (x - 20) (y - 2), π3, ?_, Th.pair _ _ (bd_of (by omega) (by omega)), ⟨_, by omega, h3⟩, f, by omega⟩
      simp only [runB, sSeq, sSet, sRet, sIf, sNil, sExpr, sAsg, sRaise0, sPar, sPar3, sStore, eVar, eC, eBin, eUn, eCall, eTup, eIf, eAnd, eOr, eNot, aNil, aCons, tst, tstB, tNot1, tAnd2, tOr2, trD, truV, blD, R.bind_ok, R.bind_bad, R.bind_exc, R.then_ok, R.then_bad, R.then_exc, opAdd_int, opSub_int, opNeg_int, cmpI_int, opIx_t0, opIx_t1, bGcd_int, bAbs_nat, bInt_int, bInt_tt, bInt_ff, bLen_tup, decide_true, decide_false, Bool.not_true, Bool.not_false, opEq_int, opNe_int, opEq_bl, opNe_bl, List.length_cons, List.length_nil, List.map_cons, List.map_nil, List.replicate, List.cons_append, List.nil_append, List.getElem?_cons_zero, List.getElem?_cons_succ, List.set_cons_zero, List.set_cons_succ, Nat.reduceAdd, Nat.reduceSub, Nat.reduceLeDiff, if_true, if_false, ite_true, ite_false, le_LEN, e1, e2, e3, hw', h9]
    · obtain ⟨a, b, π', e4, q, h4, f4, l4⟩ := law_frac_ok (w := true) h3 (by omega)
      refine ⟨fr a b, π', ?_, .pair _ _ (q.B.mono (by decide)), ⟨_, by omega, h4⟩, f.trans f4, by omega⟩
      simp only [runB, sSeq, sSet, sRet, sIf, sNil, sExpr, sAsg, sRaise0, sPar, sPar3, sStore, eVar, eC, eBin, eUn, eCall, eTup, eIf, eAnd, eOr, eNot, aNil, aCons, tst, tstB, tNot1, tAnd2, tOr2, trD, truV, blD, R.bind_ok, R.bind_bad, R.bind_exc, R.then_ok, R.then_bad, R.then_exc, opAdd_int, opSub_int, opNeg_int, cmpI_int, opIx_t0, opIx_t1, bGcd_int, bAbs_nat, bInt_int, bInt_tt, bInt_ff, bLen_tup, decide_true, decide_false, Bool.not_true, Bool.not_false, opEq_int, opNe_int, opEq_bl, opNe_bl, List.length_cons, List.length_nil, List.map_cons, List.map_nil, List.replicate, List.cons_append, List.nil_append, List.getElem?_cons_zero, List.getElem?_cons_succ, List.set_cons_zero, List.set_cons_succ, Nat.reduceAdd, Nat.reduceSub, Nat.reduceLeDiff, if_true, if_false, ite_true, ite_false, le_LEN, e1, e2, e3, hw', h9, e4]
end G
set_option Elab.async false
set_option linter.all false
set_option maxRecDepth 100000
set_option maxHeartbeats 4000000
namespace G
open PySem Lb
variable {π0 : PH}
/-! one source of draws -/
structure St (π0 π : PH) (u n g h : Nat) (xs ys : List D) (M : List Nat) : Prop where
  urn : Urn π u n
  hg : π[g]? = some (.lst xs)
  hh : π[h]? = some (.lst ys)
  mu : u ∈ M
  mg : g ∈ M
  mh : h ∈ M
  gh : g ≠ h
  gu : g ≠ u
  hu : h ≠ u
  lt : ∀ i ∈ M, i < π.length
  old : Lb.Fr [u] π0 π
  g0 : π0.length ≤ g
  h0 : π0.length ≤ h
theorem fr_u {π π' : PH} {u : Nat} {M : List Nat} (f : Fr [u] π π') (hu : u ∈ M) : Fr M π π' := f.mono fun i q => by rw [List.mem_singleton.mp q]; exact hu
theorem St.nil {π0 π π' : PH} {u n g h : Nat} {xs ys : List D} {M : List Nat} (s : St π0 π u n g h xs ys M) (f : Fr [] π π') (l : π.length ≤ π'.length) : St π0 π' u n g h xs ys M :=
  ⟨s.urn.fr f, f _ _ List.not_mem_nil s.hg, f _ _ List.not_mem_nil s.hh, s.mu, s.mg, s.mh, s.gh, s.gu, s.hu, (fun i q => by have := s.lt i q; omega), s.old.trans f.nil, s.g0, s.h0⟩
theorem St.draw {π0 π π' : PH} {u n n' g h : Nat} {xs ys : List D} {M : List Nat} (s : St π0 π u n g h xs ys M) (f : Fr [u] π π') (hu : Urn π' u n') (l : π.length ≤ π'.length) : St π0 π' u n' g h xs ys M :=
  ⟨hu, f _ _ (fun q => s.gu (List.mem_singleton.mp q)) s.hg, f _ _ (fun q => s.hu (List.mem_singleton.mp q)) s.hh, s.mu, s.mg, s.mh, s.gh, s.gu, s.hu, (fun i q => by have := s.lt i q; omega), s.old.trans f, s.g0, s.h0⟩
/-- the list of what is got, made anew, longer -/
theorem St.newG {π0 π : PH} {u n g h : Nat} {xs ys zs : List D} {M : List Nat} (s : St π0 π u n g h xs ys M) : St π0 (π ++ [.lst zs]) u n π.length h zs ys (π.length :: M) := by
  have l1 := lt_of_at s.hh
  have l2 := s.urn.lt
  exact ⟨s.urn.app, at_len, fr_app (M := []) _ _ _ _ List.not_mem_nil s.hh, List.mem_cons_of_mem _ s.mu, List.mem_cons_self, List.mem_cons_of_mem _ s.mh, by omega, by omega, s.hu, (fun i q => by
    simp only [List.length_append, List.length_singleton]
    rcases List.mem_cons.mp q with q | q
    · omega
    · have := s.lt i q; omega), s.old.trans (fr_app _ _), (by have := s.g0; have := lt_of_at s.hg; omega), s.h0⟩
theorem St.newH {π0 π : PH} {u n g h : Nat} {xs ys zs : List D} {M : List Nat} (s : St π0 π u n g h xs ys M) : St π0 (π ++ [.lst zs]) u n g π.length xs zs (π.length :: M) := by
  have l1 := lt_of_at s.hg
  have l2 := s.urn.lt
  exact ⟨s.urn.app, fr_app (M := []) _ _ _ _ List.not_mem_nil s.hg, at_len, List.mem_cons_of_mem _ s.mu, List.mem_cons_of_mem _ s.mg, List.mem_cons_self, by omega, s.gu, by omega, (fun i q => by
    simp only [List.length_append, List.length_singleton]
    rcases List.mem_cons.mp q with q | q
    · omega
    · have := s.lt i q; omega), s.old.trans (fr_app _ _), s.g0, (by have := s.g0; have := lt_of_at s.hg; omega)⟩
theorem St.setG {π0 π : PH} {u n g h : Nat} {xs ys zs : List D} {M : List Nat} (s : St π0 π u n g h xs ys M) : St π0 (π.set g (.lst zs)) u n g h zs ys M := by
  obtain ⟨a, b, c, hu, r⟩ := s.urn
  exact ⟨⟨a, b, c, by rw [List.getElem?_set_ne s.gu]; exact hu, r⟩, at_set s.hg, by rw [List.getElem?_set_ne s.gh]; exact s.hh, s.mu, s.mg, s.mh, s.gh, s.gu, s.hu, (fun i q => by rw [List.length_set]; exact s.lt i q), (fun i c hi e => by rw [List.getElem?_set_ne (by have := lt_of_at e; have := s.g0; omega)]; exact s.old i c hi e), s.g0, s.h0⟩
theorem St.setH {π0 π : PH} {u n g h : Nat} {xs ys zs : List D} {M : List Nat} (s : St π0 π u n g h xs ys M) : St π0 (π.set h (.lst zs)) u n g h xs zs M := by
  obtain ⟨a, b, c, hu, r⟩ := s.urn
  exact ⟨⟨a, b, c, by rw [List.getElem?_set_ne s.hu]; exact hu, r⟩, by rw [List.getElem?_set_ne (Ne.symm s.gh)]; exact s.hg, at_set s.hh, s.mu, s.mg, s.mh, s.gh, s.gu, s.hu, (fun i q => by rw [List.length_set]; exact s.lt i q), (fun i c hi e => by rw [List.getElem?_set_ne (by have := lt_of_at e; have := s.h0; omega)]; exact s.old i c hi e), s.g0, s.h0⟩
theorem fr_in {π : PH} {g : Nat} {c : PO} {M : List Nat} (h : g ∈ M) : Fr M π (π.set g c) := fr_set.mono fun i q => by rw [List.mem_singleton.mp q]; exact h
theorem append_ok {π π1 : PH} {g i : Nat} {xs zs : List D} {ρ : RO} {aa : Av} {d : D} (hi : eVar i ρ π = .ok (.ref g) π) (hg : π[g]? = some (.lst zs)) (ha : aa ρ π = .ok [d] π1) (hg' : π1[g]? = some (.lst xs)) (hl : xs.length ≤ LEN) : sExpr (eMeth bAppend (eVar i) aa) ρ π = .nx ρ (π1.set g (.lst (xs ++ [d]))) := by
  refine ex_expr (d := .non) ?_
  unfold eMeth
  rw [hi, R.bind_ok]
  simp only [hg, ha, R.bind_ok]
  unfold bAppend
  simp only [hg', if_pos hl]
/-- one thing, asked twice -/
theorem thing_step {π0 π : PH} {u n g h : Nat} {xs ys : List D} {M : List Nat} {ρ : RO} (s : St π0 π u n g h xs ys M) (hn : n < 100) (hs : Sms π M 4 xs ys) (hx : xs.length ≤ 50) (hy : ys.length ≤ 50)
    {x1 x2 x3 x4 x7 x8 x9 x10 x11 x12 : Option D} :
    ∃ m π' z n', (sSeq (sSet 12 (eCall f_law_thing (aCons (eVar 0) aNil)))
      (sSeq (sExpr (eMeth bAppend (eVar 5) (aCons (eCall f_is_fraction (aCons (eVar 12) aNil)) aNil)))
        (sExpr (eMeth bAppend (eVar 6) (aCons (eCall f_law_is_frac (aCons (eVar 12) aNil)) aNil)))))
      [some (.ref u), x1, x2, x3, x4, some (.ref g), some (.ref h), x7, x8, x9, x10, x11, x12] π = .nx [some (.ref u), x1, x2, x3, x4, some (.ref g), some (.ref h), x7, x8, x9, x10, x11, some m] π'
      ∧ St π0 π' u n' g h (xs ++ [z]) (ys ++ [z]) M ∧ n' ≤ n + 5 ∧ Sms π' M 4 (xs ++ [z]) (ys ++ [z]) := by
  obtain ⟨m, π1, e1, th, ⟨n', hn', h1⟩, f1, l1⟩ := thing_ok s.urn (by omega)
  obtain ⟨b, ee⟩ := isf_ok th
  obtain ⟨e2, -⟩ := ee π1 fun i zs q => ⟨zs, q⟩
  have s1 := s.draw f1 h1 l1
  obtain ⟨-, e3⟩ := ee (π1.set g (.lst (xs ++ [.bl b]))) fun i zs hi => by
    by_cases q : g = i
    · subst q; exact ⟨_, at_set s1.hg⟩
    · exact ⟨zs, by rw [List.getElem?_set_ne q]; exact hi⟩
  have s2 := s1.setG (zs := xs ++ [.bl b])
  have s3 := s2.setH (zs := ys ++ [.bl b])
  refine ⟨m, _, .bl b, n', ex_seq (ex_set (ex_call (ex_cons rfl ex_nil) e1)) (ex_seq (append_ok rfl s1.hg (ex_cons (ex_call (ex_cons rfl ex_nil) e2) ex_nil) s1.hg (Nat.le_trans hx (by decide))) (append_ok rfl s2.hh (ex_cons (ex_call (ex_cons rfl ex_nil) e3) ex_nil) s2.hh (Nat.le_trans hy (by decide)))), s3, hn', ?_⟩
  refine Sms.app (us := [.bl b]) (vs := [.bl b]) ⟨.bl _ _, trivial⟩ (Sms.imp (fun x y q => q.keep ?_) hs)
  exact ((fr_u f1 s.mu).trans (fr_in s.mg)).trans (fr_in s.mh)
end G
set_option Elab.async false
set_option linter.all false
set_option maxRecDepth 100000
set_option maxHeartbeats 4000000
namespace G
open PySem Lb
variable {π0 : PH}
theorem cat_ok {π π1 : PH} {i n : Nat} {xs ds : List D} {ρ : RO} {aa : Av} (hi : eVar i ρ π = .ok (.ref n) π) (ha : aa ρ π = .ok ds π1) (hn : π1[n]? = some (.lst xs)) (hl : ds.length ≤ 100) (hx : xs.length ≤ 100) :
    sSet i (eBin opAdd (eVar i) (eLst aa)) ρ π = .nx (ρ.set i (some (.ref (π1 ++ [PO.lst ds]).length))) (π1 ++ [.lst ds] ++ [.lst (xs ++ ds)]) := by
  refine ex_set (ex_bin hi (ex_lst ha (Nat.le_trans hl (by decide))) (opAdd_ll (fr_app (M := []) _ _ _ _ List.not_mem_nil hn) at_len ?_))
  exact Nat.le_trans (Nat.add_le_add hx hl) (by decide)
theorem step_2 {π : PH} {u n : Nat} {w : Bool} {x1 x3 x4 x5 x6 x7 x8 x9 x10 x11 x12 : Option D} (h : Urn π u n) (hn : n < 100) : ∃ a b c d π' n', (sPar 3 4 (eCall f_law_frac (aCons (eVar 0) (aCons (eVar 2) aNil))) (eCall f_law_frac (aCons (eVar 0) (aCons (eOr (eVar 2) (eBin opEq (eCall f_law_take (aCons (eVar 0) (aCons (eC (.int 4)) aNil))) (eC (.int 0)))) aNil)))) [some (.ref u), x1, some (.bl w), x3, x4, x5, x6, x7, x8, x9, x10, x11, x12] π = .nx [some (.ref u), x1, some (.bl w), some (fr a b), some (fr c d), x5, x6, x7, x8, x9, x10, x11, x12] π' ∧ Fq a b ∧ Fq c d ∧ Urn π' u n' ∧ n' ≤ n + 5 ∧ Lb.Fr [u] π π' ∧ π.length ≤ π'.length := by
  obtain ⟨a, b, π1, e1, q1, h1, f1, l1⟩ := law_frac_ok (w := w) h (by omega)
  obtain ⟨w2, π2, n2, e2, h2, hn2, f2, l2⟩ : ∃ w2 π2 n2, (eOr (eVar 2) (eBin opEq (eCall f_law_take (aCons (eVar 0) (aCons (eC (.int 4)) aNil))) (eC (.int 0)))) [some (.ref u), x1, some (.bl w), x3, x4, x5, x6, x7, x8, x9, x10, x11, x12] π1 = .ok (.bl w2) π2 ∧ Urn π2 u n2 ∧ n2 ≤ n + 3 ∧ Lb.Fr [u] π1 π2 ∧ π1.length ≤ π2.length := by
    cases w with
    | true => exact ⟨true, π1, n + 2, by simp only [runB, sSeq, sSet, sRet, sIf, sNil, sExpr, sAsg, sRaise0, sPar, sPar3, sStore, eVar, eC, eBin, eUn, eCall, eTup, eIf, eAnd, eOr, eNot, aNil, aCons, tst, tstB, tNot1, tAnd2, tOr2, trD, truV, blD, R.bind_ok, R.bind_bad, R.bind_exc, R.then_ok, R.then_bad, R.then_exc, opAdd_int, opSub_int, opNeg_int, cmpI_int, opIx_t0, opIx_t1, bGcd_int, bAbs_nat, bInt_int, bInt_tt, bInt_ff, bLen_tup, decide_true, decide_false, Bool.not_true, Bool.not_false, opEq_int, opNe_int, opEq_bl, opNe_bl, List.length_cons, List.length_nil, List.map_cons, List.map_nil, List.replicate, List.cons_append, List.nil_append, List.getElem?_cons_zero, List.getElem?_cons_succ, List.set_cons_zero, List.set_cons_succ, Nat.reduceAdd, Nat.reduceSub, Nat.reduceLeDiff, if_true, if_false, ite_true, ite_false, le_LEN], h1, by omega, .refl, Nat.le_refl _⟩
    | false =>
      obtain ⟨t, π2, e2, t0, t1, h2, f2, l2⟩ := take_ok' (low := 4) h1 (by omega) (by decide) (by decide)
      exact ⟨t == 0, π2, n + 3, by simp only [runB, sSeq, sSet, sRet, sIf, sNil, sExpr, sAsg, sRaise0, sPar, sPar3, sStore, eVar, eC, eBin, eUn, eCall, eTup, eIf, eAnd, eOr, eNot, aNil, aCons, tst, tstB, tNot1, tAnd2, tOr2, trD, truV, blD, R.bind_ok, R.bind_bad, R.bind_exc, R.then_ok, R.then_bad, R.then_exc, opAdd_int, opSub_int, opNeg_int, cmpI_int, opIx_t0, opIx_t1, bGcd_int, bAbs_nat, bInt_int, bInt_tt, bInt_ff, bLen_tup, decide_true, decide_false, Bool.not_true, Bool.not_false, opEq_int, opNe_int, opEq_bl, opNe_bl, List.length_cons, List.length_nil, List.map_cons, List.map_nil, List.replicate, List.cons_append, List.nil_append, List.getElem?_cons_zero, List.getElem?_cons_succ, List.set_cons_zero, List.set_cons_succ, Nat.reduceAdd, Nat.reduceSub, Nat.reduceLeDiff, if_true, if_false, ite_true, ite_false, le_LEN, e2], h2, by omega, f2, by omega⟩
  obtain ⟨c, d, π3, e3, q3, h3, f3, l3⟩ := law_frac_ok (w := w2) h2 (by omega)
  refine ⟨a, b, c, d, π3, n2 + 2, ?_, q1, q3, h3, by omega, (f1.trans f2).trans f3, by omega⟩
  unfold sPar
  rw [show (eCall f_law_frac (aCons (eVar 0) (aCons (eVar 2) aNil))) [some (.ref u), x1, some (.bl w), x3, x4, x5, x6, x7, x8, x9, x10, x11, x12] π = .ok (fr a b) π1 from ex_call (ex_cons rfl (ex_cons rfl ex_nil)) e1, R.then_ok]
  rw [ex_call (f := f_law_frac) (ex_cons rfl (ex_cons e2 ex_nil)) e3, R.then_ok]
  rfl
theorem step_3 {π : PH} {u n : Nat} {a b c d : Int} {x1 x2 x5 x6 x7 x8 x9 x10 x11 x12 : Option D} (h : Urn π u n) (hn : n < 100) (q : Fq a b) (q' : Fq c d) : ∃ c' d' π' n', (sIf (tstB (eBin opEq (eCall f_law_take (aCons (eVar 0) (aCons (eC (.int 8)) aNil))) (eC (.int 0)))) (sSet 4 (eCall f_law_of (aCons (eVar 0) (aCons (eLst (aCons (eVar 3) (aCons (eCall f_law_neg (aCons (eVar 3) aNil)) (aCons (eTup (aCons (eC (.int 0)) (aCons (eC (.int 1)) aNil))) aNil)))) aNil)))) sNil) [some (.ref u), x1, x2, some (fr a b), some (fr c d), x5, x6, x7, x8, x9, x10, x11, x12] π = .nx [some (.ref u), x1, x2, some (fr a b), some (fr c' d'), x5, x6, x7, x8, x9, x10, x11, x12] π' ∧ Fq c' d' ∧ Urn π' u n' ∧ n' ≤ n + 2 ∧ Lb.Fr [u] π π' ∧ π.length ≤ π'.length := by
  obtain ⟨t, π1, e1, t0, t1, h1, f1, l1⟩ := take_ok' (low := 8) h (by omega) (by decide) (by decide)
  have et : (tstB (eBin opEq (eCall f_law_take (aCons (eVar 0) (aCons (eC (.int 8)) aNil))) (eC (.int 0)))) [some (.ref u), x1, x2, some (fr a b), some (fr c d), x5, x6, x7, x8, x9, x10, x11, x12] π = .ok (t == 0) π1 := by
    simp only [runB, sSeq, sSet, sRet, sIf, sNil, sExpr, sAsg, sRaise0, sPar, sPar3, sStore, eVar, eC, eBin, eUn, eCall, eTup, eIf, eAnd, eOr, eNot, aNil, aCons, tst, tstB, tNot1, tAnd2, tOr2, trD, truV, blD, R.bind_ok, R.bind_bad, R.bind_exc, R.then_ok, R.then_bad, R.then_exc, opAdd_int, opSub_int, opNeg_int, cmpI_int, opIx_t0, opIx_t1, bGcd_int, bAbs_nat, bInt_int, bInt_tt, bInt_ff, bLen_tup, decide_true, decide_false, Bool.not_true, Bool.not_false, opEq_int, opNe_int, opEq_bl, opNe_bl, List.length_cons, List.length_nil, List.map_cons, List.map_nil, List.replicate, List.cons_append, List.nil_append, List.getElem?_cons_zero, List.getElem?_cons_succ, List.set_cons_zero, List.set_cons_succ, Nat.reduceAdd, Nat.reduceSub, Nat.reduceLeDiff, if_true, if_false, ite_true, ite_false, le_LEN, e1]
  by_cases ht : (t == 0) = true
  · rw [ht] at et
    obtain ⟨m, π2, e4, ⟨j, hj⟩, h4, f4, l4⟩ := of_ok (π := π1 ++ [.lst [fr a b, fr (0 - a) b, fr 0 1]]) (v := π1.length) (xs := [fr a b, fr (0 - a) b, fr 0 1]) h1.app (by omega) at_len (by have := h1.lt; omega) (show 0 < 3 by decide) (show 3 < 2 ^ 50 by decide)
    rw [← of_id] at e4
    have el : (eLst (aCons (eVar 3) (aCons (eCall f_law_neg (aCons (eVar 3) aNil)) (aCons (eTup (aCons (eC (.int 0)) (aCons (eC (.int 1)) aNil))) aNil)))) [some (.ref u), x1, x2, some (fr a b), some (fr c d), x5, x6, x7, x8, x9, x10, x11, x12] π1 = .ok (.ref π1.length) (π1 ++ [.lst [fr a b, fr (0 - a) b, fr 0 1]]) := by
      refine ex_lst (π1 := π1) ?_ (show 3 ≤ LEN by decide)
      simp only [runB, sSeq, sSet, sRet, sIf, sNil, sExpr, sAsg, sRaise0, sPar, sPar3, sStore, eVar, eC, eBin, eUn, eCall, eTup, eIf, eAnd, eOr, eNot, aNil, aCons, tst, tstB, tNot1, tAnd2, tOr2, trD, truV, blD, R.bind_ok, R.bind_bad, R.bind_exc, R.then_ok, R.then_bad, R.then_exc, opAdd_int, opSub_int, opNeg_int, cmpI_int, opIx_t0, opIx_t1, bGcd_int, bAbs_nat, bInt_int, bInt_tt, bInt_ff, bLen_tup, decide_true, decide_false, Bool.not_true, Bool.not_false, opEq_int, opNe_int, opEq_bl, opNe_bl, List.length_cons, List.length_nil, List.map_cons, List.map_nil, List.replicate, List.cons_append, List.nil_append, List.getElem?_cons_zero, List.getElem?_cons_succ, List.set_cons_zero, List.set_cons_succ, Nat.reduceAdd, Nat.reduceSub, Nat.reduceLeDiff, if_true, if_false, ite_true, ite_false, le_LEN, law_neg_eq]
    have es : ∀ m, f_law_of [.ref u, .ref π1.length] (π1 ++ [.lst [fr a b, fr (0 - a) b, fr 0 1]]) = .ok m π2 → (sIf (tstB (eBin opEq (eCall f_law_take (aCons (eVar 0) (aCons (eC (.int 8)) aNil))) (eC (.int 0)))) (sSet 4 (eCall f_law_of (aCons (eVar 0) (aCons (eLst (aCons (eVar 3) (aCons (eCall f_law_neg (aCons (eVar 3) aNil)) (aCons (eTup (aCons (eC (.int 0)) (aCons (eC (.int 1)) aNil))) aNil)))) aNil)))) sNil) [some (.ref u), x1, x2, some (fr a b), some (fr c d), x5, x6, x7, x8, x9, x10, x11, x12] π = .nx [some (.ref u), x1, x2, some (fr a b), some m, x5, x6, x7, x8, x9, x10, x11, x12] π2 := by
      intro m e4
      refine ex_ifT et ?_
      rw [ex_set (i := 4) (ex_call (f := f_law_of) (ex_cons rfl (ex_cons el ex_nil)) e4)]
      rfl
    have ff := f1.trans ((fr_app (M := [u]) π1 [PO.lst [fr a b, fr (0 - a) b, fr 0 1]]).trans f4)
    have ll : π.length ≤ π2.length := by simp only [List.length_append] at l4; omega
    match j, hj with
    | 0, hj => cases hj; exact ⟨a, b, π2, _, es _ e4, q, h4, by omega, ff, ll⟩
    | 1, hj => cases hj; exact ⟨0 - a, b, π2, _, es _ e4, q.neg, h4, by omega, ff, ll⟩
    | 2, hj => cases hj; exact ⟨0, 1, π2, _, es _ e4, fq_01, h4, by omega, ff, ll⟩
    | j + 3, hj => simp at hj
  · rw [Bool.not_eq_true] at ht
    rw [ht] at et
    exact ⟨c, d, π1, n + 1, ex_ifF et rfl, q', h1, by omega, f1, by omega⟩
theorem sgn_eq (a : Int) : (if a = 0 then 0 else if a > 0 then 1 else -1) = (if 0 < a then 1 else 0) - (if a < 0 then (1 : Int) else 0) := by
  by_cases h0 : a = 0
  · subst h0; rfl
  · by_cases h1 : 0 < a
    · rw [if_neg h0, if_pos h1, if_pos h1, if_neg (by omega)]; rfl
    · rw [if_neg h0, if_neg h1, if_neg h1, if_pos (by omega)]; rfl
/-- the two lists at first -/
theorem step_4 {π0 π : PH} {u n : Nat} {a b c d : Int} {x1 x2 x5 x6 x7 x8 x9 x10 x11 x12 : Option D} (h : Urn π u n) (f0 : Lb.Fr [u] π0 π) (l0' : π0.length ≤ π.length) (q : Fq a b) (q' : Fq c d) : ∃ π' g hh xs x7', ∃ M : List Nat,
    (∀ K : Sv, sSeq (sSet 5 (eLst (aCons (eCall f_plus (aCons (eVar 3) (aCons (eVar 4) aNil))) (aCons (eCall f_minus (aCons (eVar 3) (aCons (eVar 4) aNil))) (aCons (eCall f_times (aCons (eVar 3) (aCons (eVar 4) aNil))) (aCons (eCall f_is_less (aCons (eVar 3) (aCons (eVar 4) aNil))) (aCons (eCall f_sign_of (aCons (eVar 3) aNil)) (aCons (eCall f_whole (aCons (eBin opIx (eVar 3) (eC (.int 0))) aNil)) aNil)))))))) (sSeq (sSet 6 (eLst (aCons (eCall f_law_add (aCons (eVar 3) (aCons (eVar 4) aNil))) (aCons (eCall f_law_add (aCons (eVar 3) (aCons (eCall f_law_neg (aCons (eVar 4) aNil)) aNil))) (aCons (eCall f_law_mul (aCons (eVar 3) (aCons (eVar 4) aNil))) aNil))))) (sSeq (sSet 7 (eBin opSub (eBin opMul (eBin opIx (eVar 3) (eC (.int 0))) (eBin opIx (eVar 4) (eC (.int 1)))) (eBin opMul (eBin opIx (eVar 4) (eC (.int 0))) (eBin opIx (eVar 3) (eC (.int 1)))))) (sSeq (sSet 6 (eBin opAdd (eVar 6) (eLst (aCons (eBin opLt (eVar 7) (eC (.int 0))) (aCons (eBin opSub (eCall bInt (aCons (eBin opGt (eBin opIx (eVar 3) (eC (.int 0))) (eC (.int 0))) aNil)) (eCall bInt (aCons (eBin opLt (eBin opIx (eVar 3) (eC (.int 0))) (eC (.int 0))) aNil))) (aCons (eTup (aCons (eBin opIx (eVar 3) (eC (.int 0))) (aCons (eC (.int 1)) aNil))) aNil)))))) K))) [some (.ref u), x1, x2, some (fr a b), some (fr c d), x5, x6, x7, x8, x9, x10, x11, x12] π = K [some (.ref u), x1, x2, some (fr a b), some (fr c d), some (.ref g), some (.ref hh), x7', x8, x9, x10, x11, x12] π')
    ∧ St π0 π' u n g hh xs xs M ∧ Sms π' M 4 xs xs ∧ xs.length = 6 := by
  have A := q.A.mono (show 21 ≤ 2000 by decide)
  have B := q.B.mono (show 21 ≤ 2000 by decide)
  have C := q'.A.mono (show 21 ≤ 2000 by decide)
  have D' := q'.B.mono (show 21 ≤ 2000 by decide)
  have hb := q.f.1
  have hd := q'.f.1
  have C' := q'.neg.A.mono (show 21 ≤ 2000 by decide)
  let v1 := Lb.fr2 (lw (a * d + c * b) (b * d))
  let v2 := Lb.fr2 (lw (a * d - c * b) (b * d))
  let v3 := Lb.fr2 (lw (a * c) (b * d))
  let v4 := D.bl (decide (a * d < c * b))
  let v5 := D.int (if a = 0 then 0 else if a > 0 then 1 else -1)
  let v6 := fr a 1
  have e4 : (sSet 5 (eLst (aCons (eCall f_plus (aCons (eVar 3) (aCons (eVar 4) aNil))) (aCons (eCall f_minus (aCons (eVar 3) (aCons (eVar 4) aNil))) (aCons (eCall f_times (aCons (eVar 3) (aCons (eVar 4) aNil))) (aCons (eCall f_is_less (aCons (eVar 3) (aCons (eVar 4) aNil))) (aCons (eCall f_sign_of (aCons (eVar 3) aNil)) (aCons (eCall f_whole (aCons (eBin opIx (eVar 3) (eC (.int 0))) aNil)) aNil)))))))) [some (.ref u), x1, x2, some (fr a b), some (fr c d), x5, x6, x7, x8, x9, x10, x11, x12] π = .nx [some (.ref u), x1, x2, some (fr a b), some (fr c d), some (.ref π.length), x6, x7, x8, x9, x10, x11, x12] (π ++ [.lst [v1, v2, v3, v4, v5, v6]]) := by
    refine ex_set (ex_lst (π1 := π) ?_ (show 6 ≤ LEN by decide))
    simp only [runB, sSeq, sSet, sRet, sIf, sNil, sExpr, sAsg, sRaise0, sPar, sPar3, sStore, eVar, eC, eBin, eUn, eCall, eTup, eIf, eAnd, eOr, eNot, aNil, aCons, tst, tstB, tNot1, tAnd2, tOr2, trD, truV, blD, R.bind_ok, R.bind_bad, R.bind_exc, R.then_ok, R.then_bad, R.then_exc, opAdd_int, opSub_int, opNeg_int, cmpI_int, opIx_t0, opIx_t1, bGcd_int, bAbs_nat, bInt_int, bInt_tt, bInt_ff, bLen_tup, decide_true, decide_false, Bool.not_true, Bool.not_false, opEq_int, opNe_int, opEq_bl, opNe_bl, List.length_cons, List.length_nil, List.map_cons, List.map_nil, List.replicate, List.cons_append, List.nil_append, List.getElem?_cons_zero, List.getElem?_cons_succ, List.set_cons_zero, List.set_cons_succ, Nat.reduceAdd, Nat.reduceSub, Nat.reduceLeDiff, if_true, if_false, ite_true, ite_false, le_LEN, plus_eq hb hd A B C D', minus_eq hb hd A B C D', times_eq hb hd A B C D', is_less_eq A B C D', sign_of_eq, whole_eq]
    rfl
  have em : a * d + (0 - c) * b = a * d - c * b := by rw [Int.sub_mul]; omega
  have e5 : (sSet 6 (eLst (aCons (eCall f_law_add (aCons (eVar 3) (aCons (eVar 4) aNil))) (aCons (eCall f_law_add (aCons (eVar 3) (aCons (eCall f_law_neg (aCons (eVar 4) aNil)) aNil))) (aCons (eCall f_law_mul (aCons (eVar 3) (aCons (eVar 4) aNil))) aNil))))) [some (.ref u), x1, x2, some (fr a b), some (fr c d), some (.ref π.length), x6, x7, x8, x9, x10, x11, x12] (π ++ [.lst [v1, v2, v3, v4, v5, v6]]) = .nx [some (.ref u), x1, x2, some (fr a b), some (fr c d), some (.ref π.length), some (.ref (π ++ [PO.lst [v1, v2, v3, v4, v5, v6]]).length), x7, x8, x9, x10, x11, x12] (π ++ [.lst [v1, v2, v3, v4, v5, v6]] ++ [.lst [v1, v2, v3]]) := by
    refine ex_set (ex_lst ?_ (show 3 ≤ LEN by decide))
    simp only [runB, sSeq, sSet, sRet, sIf, sNil, sExpr, sAsg, sRaise0, sPar, sPar3, sStore, eVar, eC, eBin, eUn, eCall, eTup, eIf, eAnd, eOr, eNot, aNil, aCons, tst, tstB, tNot1, tAnd2, tOr2, trD, truV, blD, R.bind_ok, R.bind_bad, R.bind_exc, R.then_ok, R.then_bad, R.then_exc, opAdd_int, opSub_int, opNeg_int, cmpI_int, opIx_t0, opIx_t1, bGcd_int, bAbs_nat, bInt_int, bInt_tt, bInt_ff, bLen_tup, decide_true, decide_false, Bool.not_true, Bool.not_false, opEq_int, opNe_int, opEq_bl, opNe_bl, List.length_cons, List.length_nil, List.map_cons, List.map_nil, List.replicate, List.cons_append, List.nil_append, List.getElem?_cons_zero, List.getElem?_cons_succ, List.set_cons_zero, List.set_cons_succ, Nat.reduceAdd, Nat.reduceSub, Nat.reduceLeDiff, if_true, if_false, ite_true, ite_false, le_LEN, law_add_eq hb hd A B C D', law_neg_eq, law_add_eq hb hd A B C' D', law_mul_eq hb hd A B C D', em]
    rfl
  have e6 : ∀ π', (sSet 7 (eBin opSub (eBin opMul (eBin opIx (eVar 3) (eC (.int 0))) (eBin opIx (eVar 4) (eC (.int 1)))) (eBin opMul (eBin opIx (eVar 4) (eC (.int 0))) (eBin opIx (eVar 3) (eC (.int 1)))))) [some (.ref u), x1, x2, some (fr a b), some (fr c d), some (.ref π.length), some (.ref (π ++ [PO.lst [v1, v2, v3, v4, v5, v6]]).length), x7, x8, x9, x10, x11, x12] π' = .nx [some (.ref u), x1, x2, some (fr a b), some (fr c d), some (.ref π.length), some (.ref (π ++ [PO.lst [v1, v2, v3, v4, v5, v6]]).length), some (.int (a * d - c * b)), x8, x9, x10, x11, x12] π' := by
    intro π'
    simp only [runB, sSeq, sSet, sRet, sIf, sNil, sExpr, sAsg, sRaise0, sPar, sPar3, sStore, eVar, eC, eBin, eUn, eCall, eTup, eIf, eAnd, eOr, eNot, aNil, aCons, tst, tstB, tNot1, tAnd2, tOr2, trD, truV, blD, R.bind_ok, R.bind_bad, R.bind_exc, R.then_ok, R.then_bad, R.then_exc, opAdd_int, opSub_int, opNeg_int, cmpI_int, opIx_t0, opIx_t1, bGcd_int, bAbs_nat, bInt_int, bInt_tt, bInt_ff, bLen_tup, decide_true, decide_false, Bool.not_true, Bool.not_false, opEq_int, opNe_int, opEq_bl, opNe_bl, List.length_cons, List.length_nil, List.map_cons, List.map_nil, List.replicate, List.cons_append, List.nil_append, List.getElem?_cons_zero, List.getElem?_cons_succ, List.set_cons_zero, List.set_cons_succ, Nat.reduceAdd, Nat.reduceSub, Nat.reduceLeDiff, if_true, if_false, ite_true, ite_false, le_LEN, opMul_ok (A.mulOk D' (by decide)), opMul_ok (C.mulOk B (by decide))]
  have e7a : (aCons (eBin opLt (eVar 7) (eC (.int 0))) (aCons (eBin opSub (eCall bInt (aCons (eBin opGt (eBin opIx (eVar 3) (eC (.int 0))) (eC (.int 0))) aNil)) (eCall bInt (aCons (eBin opLt (eBin opIx (eVar 3) (eC (.int 0))) (eC (.int 0))) aNil))) (aCons (eTup (aCons (eBin opIx (eVar 3) (eC (.int 0))) (aCons (eC (.int 1)) aNil))) aNil)))
      [some (.ref u), x1, x2, some (fr a b), some (fr c d), some (.ref π.length), some (.ref (π ++ [PO.lst [v1, v2, v3, v4, v5, v6]]).length), some (.int (a * d - c * b)), x8, x9, x10, x11, x12] (π ++ [.lst [v1, v2, v3, v4, v5, v6]] ++ [.lst [v1, v2, v3]]) = .ok [v4, v5, v6] (π ++ [.lst [v1, v2, v3, v4, v5, v6]] ++ [.lst [v1, v2, v3]]) := by
    have g1 : decide (a * d - c * b < 0) = decide (a * d < c * b) := by
      congr 1
      exact propext ⟨fun h => by omega, fun h => by omega⟩
    have g2 : v5 = .int ((if 0 < a then 1 else 0) - (if a < 0 then (1 : Int) else 0)) := congrArg D.int (sgn_eq a)
    rw [g2]
    by_cases k1 : 0 < a
    · have k2 : ¬ a < 0 := by omega
      simp only [runB, sSeq, sSet, sRet, sIf, sNil, sExpr, sAsg, sRaise0, sPar, sPar3, sStore, eVar, eC, eBin, eUn, eCall, eTup, eIf, eAnd, eOr, eNot, aNil, aCons, tst, tstB, tNot1, tAnd2, tOr2, trD, truV, blD, R.bind_ok, R.bind_bad, R.bind_exc, R.then_ok, R.then_bad, R.then_exc, opAdd_int, opSub_int, opNeg_int, cmpI_int, opIx_t0, opIx_t1, bGcd_int, bAbs_nat, bInt_int, bInt_tt, bInt_ff, bLen_tup, decide_true, decide_false, Bool.not_true, Bool.not_false, opEq_int, opNe_int, opEq_bl, opNe_bl, List.length_cons, List.length_nil, List.map_cons, List.map_nil, List.replicate, List.cons_append, List.nil_append, List.getElem?_cons_zero, List.getElem?_cons_succ, List.set_cons_zero, List.set_cons_succ, Nat.reduceAdd, Nat.reduceSub, Nat.reduceLeDiff, if_true, if_false, ite_true, ite_false, le_LEN, g1, k1, k2]
      rfl
    · by_cases k2 : a < 0
      · simp only [runB, sSeq, sSet, sRet, sIf, sNil, sExpr, sAsg, sRaise0, sPar, sPar3, sStore, eVar, eC, eBin, eUn, eCall, eTup, eIf, eAnd, eOr, eNot, aNil, aCons, tst, tstB, tNot1, tAnd2, tOr2, trD, truV, blD, R.bind_ok, R.bind_bad, R.bind_exc, R.then_ok, R.then_bad, R.then_exc, opAdd_int, opSub_int, opNeg_int, cmpI_int, opIx_t0, opIx_t1, bGcd_int, bAbs_nat, bInt_int, bInt_tt, bInt_ff, bLen_tup, decide_true, decide_false, Bool.not_true, Bool.not_false, opEq_int, opNe_int, opEq_bl, opNe_bl, List.length_cons, List.length_nil, List.map_cons, List.map_nil, List.replicate, List.cons_append, List.nil_append, List.getElem?_cons_zero, List.getElem?_cons_succ, List.set_cons_zero, List.set_cons_succ, Nat.reduceAdd, Nat.reduceSub, Nat.reduceLeDiff, if_true, if_false, ite_true, ite_false, le_LEN, g1, k1, k2]
        rfl
      · simp only [runB, sSeq, sSet, sRet, sIf, sNil, sExpr, sAsg, sRaise0, sPar, sPar3, sStore, eVar, eC, eBin, eUn, eCall, eTup, eIf, eAnd, eOr, eNot, aNil, aCons, tst, tstB, tNot1, tAnd2, tOr2, trD, truV, blD, R.bind_ok, R.bind_bad, R.bind_exc, R.then_ok, R.then_bad, R.then_exc, opAdd_int, opSub_int, opNeg_int, cmpI_int, opIx_t0, opIx_t1, bGcd_int, bAbs_nat, bInt_int, bInt_tt, bInt_ff, bLen_tup, decide_true, decide_false, Bool.not_true, Bool.not_false, opEq_int, opNe_int, opEq_bl, opNe_bl, List.length_cons, List.length_nil, List.map_cons, List.map_nil, List.replicate, List.cons_append, List.nil_append, List.getElem?_cons_zero, List.getElem?_cons_succ, List.set_cons_zero, List.set_cons_succ, Nat.reduceAdd, Nat.reduceSub, Nat.reduceLeDiff, if_true, if_false, ite_true, ite_false, le_LEN, g1, k1, k2]
        rfl
  have e7 := cat_ok (i := 6) (xs := [v1, v2, v3]) rfl e7a at_len (show 3 ≤ 100 by decide) (show 3 ≤ 100 by decide)
  have l0 := h.lt
  have hu0 : ∀ c : List PO, Urn (π ++ c) u n := fun c => h.app
  refine ⟨_, π.length, (π ++ [PO.lst [v1, v2, v3, v4, v5, v6]] ++ [PO.lst [v1, v2, v3]] ++ [PO.lst [v4, v5, v6]]).length, [v1, v2, v3, v4, v5, v6], some (.int (a * d - c * b)), [u, π.length, (π ++ [PO.lst [v1, v2, v3, v4, v5, v6]] ++ [PO.lst [v1, v2, v3]] ++ [PO.lst [v4, v5, v6]]).length],
    fun K => ex_seq e4 (ex_seq e5 (ex_seq (e6 _) (ex_seq e7 rfl))), ⟨h.app.app.app.app, fr_app (M := []) _ _ _ _ List.not_mem_nil (fr_app (M := []) _ _ _ _ List.not_mem_nil (fr_app (M := []) _ _ _ _ List.not_mem_nil at_len)), at_len, by simp, by simp, by simp, ?_, by omega, ?_, ?_, ((((f0.trans (fr_app _ _)).trans (fr_app _ _)).trans (fr_app _ _)).trans (fr_app _ _)), l0', (by simp only [List.length_append]; omega)⟩, ?_, rfl⟩
  · simp only [List.length_append, List.length_singleton]; omega
  · simp only [List.length_append, List.length_singleton]; omega
  · intro i hi
    simp only [List.mem_cons, List.not_mem_nil, or_false] at hi
    simp only [List.length_append, List.length_singleton] at hi ⊢
    omega
  · exact ⟨sm_pair.to (by decide), sm_pair.to (by decide), sm_pair.to (by decide), .bl _ _, .int _ _, sm_pair.to (by decide), trivial⟩

theorem fr_app' {M : List Nat} {π π' : PH} (c : PO) (f : Fr M π π') : Fr M π (π' ++ [c]) := f.trans (fr_app _ _)
/-- one more of what is due -/
theorem due_ok {π0 π π1 : PH} {u n g h : Nat} {xs ys : List D} {M : List Nat} {v : Option (Int × Int)} {q : D} {ρ : RO} {e : Ev} (s : St π0 π u n g h xs ys M) (hi : eVar 6 ρ π = .ok (.ref h) π) (he : e ρ π = .ok q π1) (hv : Va π1 M v q) (f : Fr [] π π1) (l : π.length ≤ π1.length) (hy : ys.length ≤ 50) :
    ∃ h' π' M', sSet 6 (eBin opAdd (eVar 6) (eLst (aCons e aNil))) ρ π = .nx (ρ.set 6 (some (.ref h'))) π' ∧ St π0 π' u n g h' xs (ys ++ [q]) M' ∧ Va π' M' v q ∧ Fr M π π' ∧ (∀ {k : Nat} {x y : D}, Sm π M k x y → Sm π' M' k x y) ∧ (∀ {w : Option (Int × Int)} {p : D}, Va π M w p → Va π' M' w p) ∧ π.length ≤ π'.length := by
  have s1 := s.nil f l
  have e1 := cat_ok (i := 6) hi (ex_cons he ex_nil) s1.hh (show 1 ≤ 100 by decide) (Nat.le_trans hy (by decide))
  have s2 := (s1.nil (fr_app π1 [PO.lst [q]]) (by simp)).newH (zs := ys ++ [q])
  have lM : ∀ i ∈ M, i < (π1 ++ [PO.lst [q]]).length := fun i hi => by have := s1.lt i hi; simp only [List.length_append]; omega
  have f1 : Fr M π1 (π1 ++ [PO.lst [q]]) := fr_app _ _
  have f2 : Fr M π (π1 ++ [PO.lst [q]]) := (f.nil).trans f1
  have f3 : Fr ((π1 ++ [PO.lst [q]]).length :: M) (π1 ++ [PO.lst [q]]) (π1 ++ [PO.lst [q]] ++ [PO.lst (ys ++ [q])]) := fr_app _ _
  exact ⟨_, _, _, e1, s2, ((hv.keep f1).more (Nat.le_refl _)).keep f3, (f2.trans (fr_app _ _)), fun q => ((q.keep f2).more (Nat.le_refl _)).keep f3, fun q => ((q.keep f2).more (Nat.le_refl _)).keep f3, by simp only [List.length_append]; omega⟩
/-- what is heard of two quotients, got and due -/
theorem step_8 {π0 π : PH} {u n g h : Nat} {xs : List D} {M : List Nat} {a b c d : Int} {x1 x2 x7 x8 x9 x10 x11 x12 : Option D} (s : St π0 π u n g h xs xs M) (hs : Sms π M 4 xs xs) (hx : xs.length = 6) (hn : n < 100) (q : Fq a b) (q' : Fq c d) :
    ∃ π' g' h' xs' ys' x8' x9' n', ∃ M' : List Nat,
    (∀ K : Sv, sSeq (sPar 8 9 (eBin opMul (eBin opSub (eCall f_law_take (aCons (eVar 0) (aCons (eC (.int 2001)) aNil))) (eC (.int 1000))) (eBin opIx (eVar 3) (eC (.int 1)))) (eBin opMul (eBin opSub (eCall f_law_take (aCons (eVar 0) (aCons (eC (.int 2001)) aNil))) (eC (.int 1000))) (eBin opIx (eVar 3) (eC (.int 1))))) (sSeq (sSet 5 (eBin opAdd (eVar 5) (eLst (aCons (eCall f_law_heard (aCons (eVar 8) (aCons (eVar 9) (aCons (eC (.int 0)) aNil)))) (aCons (eCall f_law_heard (aCons (eVar 3) (aCons (eVar 4) (aCons (eC (.int 1)) aNil)))) aNil))))) (sSeq (sSet 6 (eBin opAdd (eVar 6) (eLst (aCons (eIf (tstB (eBin opNe (eVar 9) (eC (.int 0)))) (eCall f_law_low (aCons (eVar 8) (aCons (eVar 9) aNil))) (eLst (aCons (eC (.str ("unfit" : Str))) (aCons (eC (.bl true)) aNil)))) aNil)))) (sSeq (sSet 6 (eBin opAdd (eVar 6) (eLst (aCons (eIf (tstB (eBin opNe (eBin opIx (eVar 4) (eC (.int 0))) (eC (.int 0)))) (eCall f_law_mul (aCons (eVar 3) (aCons (eCall f_law_inv (aCons (eVar 4) aNil)) aNil))) (eLst (aCons (eC (.str ("unfit" : Str))) (aCons (eC (.bl true)) aNil)))) aNil)))) K))) [some (.ref u), x1, x2, some (fr a b), some (fr c d), some (.ref g), some (.ref h), x7, x8, x9, x10, x11, x12] π = K [some (.ref u), x1, x2, some (fr a b), some (fr c d), some (.ref g'), some (.ref h'), x7, x8', x9', x10, x11, x12] π')
    ∧ St π0 π' u n' g' h' xs' ys' M' ∧ Sms π' M' 4 xs' ys' ∧ xs'.length = 8 ∧ ys'.length = 8 ∧ n' ≤ n + 2 := by
  have A := q.A.mono (show 21 ≤ 2000 by decide)
  have B := q.B.mono (show 21 ≤ 2000 by decide)
  have C := q'.A.mono (show 21 ≤ 2000 by decide)
  have D' := q'.B.mono (show 21 ≤ 2000 by decide)
  have hb := q.f.1
  have hd := q'.f.1
  obtain ⟨t, π1, e1, t0, t1, h1, f1, l1⟩ := take_ok' (low := 2001) s.urn (by omega) (by decide) (by decide)
  obtain ⟨t', π2, e2, t0', t1', h2, f2, l2⟩ := take_ok' (low := 2001) h1 (by omega) (by decide) (by decide)
  have b1 : Bd (t - 1000) 20 := bd_of (by omega) (by omega)
  have b2 : Bd (t' - 1000) 20 := bd_of (by omega) (by omega)
  have m1 := b1.mulOk q.B (by decide)
  have m2 := b2.mulOk q.B (by decide)
  have N := (b2.mul q.B).mono (show 20 + 21 ≤ 8000 by decide)
  have e8 : (sPar 8 9 (eBin opMul (eBin opSub (eCall f_law_take (aCons (eVar 0) (aCons (eC (.int 2001)) aNil))) (eC (.int 1000))) (eBin opIx (eVar 3) (eC (.int 1)))) (eBin opMul (eBin opSub (eCall f_law_take (aCons (eVar 0) (aCons (eC (.int 2001)) aNil))) (eC (.int 1000))) (eBin opIx (eVar 3) (eC (.int 1))))) [some (.ref u), x1, x2, some (fr a b), some (fr c d), some (.ref g), some (.ref h), x7, x8, x9, x10, x11, x12] π = .nx [some (.ref u), x1, x2, some (fr a b), some (fr c d), some (.ref g), some (.ref h), x7, some (.int ((t - 1000) * b)), some (.int ((t' - 1000) * b)), x10, x11, x12] π2 := by
    simp only [runB, sSeq, sSet, sRet, sIf, sNil, sExpr, sAsg, sRaise0, sPar, sPar3, sStore, eVar, eC, eBin, eUn, eCall, eTup, eIf, eAnd, eOr, eNot, aNil, aCons, tst, tstB, tNot1, tAnd2, tOr2, trD, truV, blD, R.bind_ok, R.bind_bad, R.bind_exc, R.then_ok, R.then_bad, R.then_exc, opAdd_int, opSub_int, opNeg_int, cmpI_int, opIx_t0, opIx_t1, bGcd_int, bAbs_nat, bInt_int, bInt_tt, bInt_ff, bLen_tup, decide_true, decide_false, Bool.not_true, Bool.not_false, opEq_int, opNe_int, opEq_bl, opNe_bl, List.length_cons, List.length_nil, List.map_cons, List.map_nil, List.replicate, List.cons_append, List.nil_append, List.getElem?_cons_zero, List.getElem?_cons_succ, List.set_cons_zero, List.set_cons_succ, Nat.reduceAdd, Nat.reduceSub, Nat.reduceLeDiff, if_true, if_false, ite_true, ite_false, le_LEN, e1, e2, opMul_ok m1, opMul_ok m2]
  generalize (t - 1000) * b = far at e8
  generalize hne : (t' - 1000) * b = near at e8 N
  have s2 := (s.draw f1 h1 (by omega)).draw f2 h2 (by omega)
  have hs2 := hs.imp fun x y q => q.keep (fr_u (f1.trans f2) s.mu)
  -- what is got
  obtain ⟨p, π3, e3, v3, f3, l3⟩ := heard0 (t := far) (b := near) s2.lt N
  have s3 := s2.nil f3 l3
  obtain ⟨p', π4, e4, v4, f4, l4⟩ := heard1 s3.lt hb A B C D'
  have s4 := s3.nil f4 l4
  have e9 := cat_ok (i := 5) (ρ := [some (.ref u), x1, x2, some (fr a b), some (fr c d), some (.ref g), some (.ref h), x7, some (.int far), some (.int near), x10, x11, x12]) (π := π2)
    (aa := aCons (eCall f_law_heard (aCons (eVar 8) (aCons (eVar 9) (aCons (eC (.int 0)) aNil)))) (aCons (eCall f_law_heard (aCons (eVar 3) (aCons (eVar 4) (aCons (eC (.int 1)) aNil)))) aNil))
    rfl (ex_cons (ex_call (ex_cons rfl (ex_cons rfl (ex_cons rfl ex_nil))) e3) (ex_cons (ex_call (ex_cons rfl (ex_cons rfl (ex_cons rfl ex_nil))) e4) ex_nil)) s4.hg (show 2 ≤ 100 by decide) (by omega)
  have s5 := (s4.nil (fr_app π4 [PO.lst [p, p']]) (by simp)).newG (zs := xs ++ [p, p'])
  have k5 : ∀ {x : PH → List Nat → Prop}, True := trivial
  have f5 : Fr M π4 (π4 ++ [PO.lst [p, p']]) := fr_app _ _
  have f6 : Fr ((π4 ++ [PO.lst [p, p']]).length :: M) (π4 ++ [PO.lst [p, p']]) (π4 ++ [PO.lst [p, p']] ++ [PO.lst (xs ++ [p, p'])]) := fr_app _ _
  have v3' := ((((v3.keep f4.nil).keep f5).more (Nat.le_refl _)).keep f6)
  have v4' := (((v4.keep f5).more (Nat.le_refl _)).keep f6)
  have hs5 := hs2.imp fun x y q => (((q.keep (f3.trans f4).nil).keep f5).more (Nat.le_refl _)).keep f6
  -- what is due
  obtain ⟨w, π7, e10, v7, f7, l7⟩ : ∃ w π7, (eIf (tstB (eBin opNe (eVar 9) (eC (.int 0)))) (eCall f_law_low (aCons (eVar 8) (aCons (eVar 9) aNil))) (eLst (aCons (eC (.str ("unfit" : Str))) (aCons (eC (.bl true)) aNil))))
      [some (.ref u), x1, x2, some (fr a b), some (fr c d), some (.ref (π4 ++ [PO.lst [p, p']]).length), some (.ref h), x7, some (.int far), some (.int near), x10, x11, x12] (π4 ++ [PO.lst [p, p']] ++ [PO.lst (xs ++ [p, p'])]) = .ok w π7
      ∧ Va π7 ((π4 ++ [PO.lst [p, p']]).length :: M) (vq far near) w ∧ Fr [] (π4 ++ [PO.lst [p, p']] ++ [PO.lst (xs ++ [p, p'])]) π7 ∧ (π4 ++ [PO.lst [p, p']] ++ [PO.lst (xs ++ [p, p'])]).length ≤ π7.length := by
    by_cases h0 : near = 0
    · refine ⟨_, _, ?_, by unfold vq; rw [if_pos h0]; exact va_new s5.lt, fr_app _ _, by simp⟩
      subst h0
      simp only [runB, sSeq, sSet, sRet, sIf, sNil, sExpr, sAsg, sRaise0, sPar, sPar3, sStore, eVar, eC, eBin, eUn, eCall, eTup, eIf, eAnd, eOr, eNot, aNil, aCons, tst, tstB, tNot1, tAnd2, tOr2, trD, truV, blD, R.bind_ok, R.bind_bad, R.bind_exc, R.then_ok, R.then_bad, R.then_exc, opAdd_int, opSub_int, opNeg_int, cmpI_int, opIx_t0, opIx_t1, bGcd_int, bAbs_nat, bInt_int, bInt_tt, bInt_ff, bLen_tup, decide_true, decide_false, Bool.not_true, Bool.not_false, opEq_int, opNe_int, opEq_bl, opNe_bl, List.length_cons, List.length_nil, List.map_cons, List.map_nil, List.replicate, List.cons_append, List.nil_append, List.getElem?_cons_zero, List.getElem?_cons_succ, List.set_cons_zero, List.set_cons_succ, Nat.reduceAdd, Nat.reduceSub, Nat.reduceLeDiff, if_true, if_false, ite_true, ite_false, le_LEN, BEq.rfl]
      exact ex_lst (ex_cons rfl (ex_cons rfl ex_nil)) (show 2 ≤ LEN by decide)
    · refine ⟨_, _, ?_, by unfold vq; rw [if_neg h0]; rfl, .refl, Nat.le_refl _⟩
      simp only [runB, sSeq, sSet, sRet, sIf, sNil, sExpr, sAsg, sRaise0, sPar, sPar3, sStore, eVar, eC, eBin, eUn, eCall, eTup, eIf, eAnd, eOr, eNot, aNil, aCons, tst, tstB, tNot1, tAnd2, tOr2, trD, truV, blD, R.bind_ok, R.bind_bad, R.bind_exc, R.then_ok, R.then_bad, R.then_exc, opAdd_int, opSub_int, opNeg_int, cmpI_int, opIx_t0, opIx_t1, bGcd_int, bAbs_nat, bInt_int, bInt_tt, bInt_ff, bLen_tup, decide_true, decide_false, Bool.not_true, Bool.not_false, opEq_int, opNe_int, opEq_bl, opNe_bl, List.length_cons, List.length_nil, List.map_cons, List.map_nil, List.replicate, List.cons_append, List.nil_append, List.getElem?_cons_zero, List.getElem?_cons_succ, List.set_cons_zero, List.set_cons_succ, Nat.reduceAdd, Nat.reduceSub, Nat.reduceLeDiff, if_true, if_false, ite_true, ite_false, le_LEN, beq_eq_false_iff_ne.mpr h0, law_low_eq h0 N]
  obtain ⟨h8, π8, M8, e8', s8, v8, f8, k8, kv8, l8⟩ := due_ok s5 rfl e10 v7 f7 l7 (by omega)
  obtain ⟨w', π9, e11, v9, f9, l9⟩ : ∃ w' π9, (eIf (tstB (eBin opNe (eBin opIx (eVar 4) (eC (.int 0))) (eC (.int 0)))) (eCall f_law_mul (aCons (eVar 3) (aCons (eCall f_law_inv (aCons (eVar 4) aNil)) aNil))) (eLst (aCons (eC (.str ("unfit" : Str))) (aCons (eC (.bl true)) aNil))))
      [some (.ref u), x1, x2, some (fr a b), some (fr c d), some (.ref (π4 ++ [PO.lst [p, p']]).length), some (.ref h8), x7, some (.int far), some (.int near), x10, x11, x12] π8 = .ok w' π9
      ∧ Va π9 M8 (if c = 0 then none else some (lwS (a * d) (b * c))) w' ∧ Fr [] π8 π9 ∧ π8.length ≤ π9.length := by
    by_cases h0 : c = 0
    · refine ⟨_, _, ?_, by rw [if_pos h0]; exact va_new s8.lt, fr_app _ _, by simp⟩
      subst h0
      simp only [runB, sSeq, sSet, sRet, sIf, sNil, sExpr, sAsg, sRaise0, sPar, sPar3, sStore, eVar, eC, eBin, eUn, eCall, eTup, eIf, eAnd, eOr, eNot, aNil, aCons, tst, tstB, tNot1, tAnd2, tOr2, trD, truV, blD, R.bind_ok, R.bind_bad, R.bind_exc, R.then_ok, R.then_bad, R.then_exc, opAdd_int, opSub_int, opNeg_int, cmpI_int, opIx_t0, opIx_t1, bGcd_int, bAbs_nat, bInt_int, bInt_tt, bInt_ff, bLen_tup, decide_true, decide_false, Bool.not_true, Bool.not_false, opEq_int, opNe_int, opEq_bl, opNe_bl, List.length_cons, List.length_nil, List.map_cons, List.map_nil, List.replicate, List.cons_append, List.nil_append, List.getElem?_cons_zero, List.getElem?_cons_succ, List.set_cons_zero, List.set_cons_succ, Nat.reduceAdd, Nat.reduceSub, Nat.reduceLeDiff, if_true, if_false, ite_true, ite_false, le_LEN, BEq.rfl]
      exact ex_lst (ex_cons rfl (ex_cons rfl ex_nil)) (show 2 ≤ LEN by decide)
    · obtain ⟨r1, r2⟩ := lwS_bd (t := d) (b := c) D' C
      have r3 := lwS_frac (t := d) h0
      refine ⟨_, _, ?_, by rw [if_neg h0, lwS_over hb h0]; rfl, .refl, Nat.le_refl _⟩
      have e := law_inv_eq (b := d) (π := π8) h0 C
      have e' : f_law_inv [fr c d] π8 = .ok (fr (lwS d c).1 (lwS d c).2) π8 := e
      simp only [runB, sSeq, sSet, sRet, sIf, sNil, sExpr, sAsg, sRaise0, sPar, sPar3, sStore, eVar, eC, eBin, eUn, eCall, eTup, eIf, eAnd, eOr, eNot, aNil, aCons, tst, tstB, tNot1, tAnd2, tOr2, trD, truV, blD, R.bind_ok, R.bind_bad, R.bind_exc, R.then_ok, R.then_bad, R.then_exc, opAdd_int, opSub_int, opNeg_int, cmpI_int, opIx_t0, opIx_t1, bGcd_int, bAbs_nat, bInt_int, bInt_tt, bInt_ff, bLen_tup, decide_true, decide_false, Bool.not_true, Bool.not_false, opEq_int, opNe_int, opEq_bl, opNe_bl, List.length_cons, List.length_nil, List.map_cons, List.map_nil, List.replicate, List.cons_append, List.nil_append, List.getElem?_cons_zero, List.getElem?_cons_succ, List.set_cons_zero, List.set_cons_succ, Nat.reduceAdd, Nat.reduceSub, Nat.reduceLeDiff, if_true, if_false, ite_true, ite_false, le_LEN, beq_eq_false_iff_ne.mpr h0, e', law_mul_eq hb r3.1.1 A B r1 r2]
  obtain ⟨h10, π10, M10, e10', s10, v10, f10, k10, kv10, l10⟩ := due_ok s8 rfl e11 v9 f9 l9 (by rw [List.length_append]; simp only [List.length_singleton]; omega)
  refine ⟨π10, _, h10, xs ++ [p, p'], xs ++ [w] ++ [w'], _, _, n + 2, M10, fun K => ex_seq e8 (ex_seq e9 (ex_seq e8' (ex_seq e10' rfl))), s10, ?_, by simp [hx], by simp [hx], Nat.le_refl _⟩
  rw [List.append_assoc]
  refine Sms.app (us := [p, p']) (vs := [w, w']) ⟨(kv10 (kv8 v3')).sm (kv10 v8), ((kv10 (kv8 v4')).sm v10), trivial⟩ ?_
  exact hs5.imp fun x y q => k10 (k8 q)

theorem vp_due {a b z : Int} {π : PH} (q : Fq a b) (hz : -61 < z ∧ z < 61) (h0 : ¬ (z < 0 ∧ a = 0)) : ∃ w, (∀ ρ : RO, eVar 3 ρ π = .ok (fr a b) π → eVar 10 ρ π = .ok (.int z) π → (eCall f_law_pow (aCons (eIf (tstB (eBin opGe (eVar 10) (eC (.int 0)))) (eVar 3) (eCall f_law_inv (aCons (eVar 3) aNil))) (aCons (eCall bAbs (aCons (eVar 10) aNil)) aNil))) ρ π = .ok w π) ∧ ∀ M, Va π M (vp a b z) w := by
  have A := q.A.mono (show 21 ≤ 100 by decide)
  have B := q.B.mono (show 21 ≤ 100 by decide)
  by_cases hn : z < 0
  · have ha : a ≠ 0 := fun e => h0 ⟨hn, e⟩
    obtain ⟨r1, r2⟩ := lwS_bd (t := b) (b := a) B A
    have e := law_inv_eq (b := b) (π := π) ha (A.mono (by decide))
    have e' : f_law_inv [fr a b] π = .ok (fr (lwS b a).1 (lwS b a).2) π := e
    refine ⟨fr ((lwS b a).1 ^ z.natAbs) ((lwS b a).2 ^ z.natAbs), fun ρ h3 h10 => ?_, fun M => ?_⟩
    · refine ex_call (ex_cons (d := fr (lwS b a).1 (lwS b a).2) ?_ (ex_cons (ex_call (ex_cons h10 ex_nil) bAbs_nat) ex_nil)) (law_pow_eq (by omega) r1 r2)
      have : (tstB (eBin opGe (eVar 10) (eC (.int 0)))) ρ π = .ok false π := by
        unfold tstB
        rw [ex_bin (o := opGe) h10 rfl cmpI_int, R.bind_ok]
        have : decide ((0 : Int) ≤ z) = false := decide_eq_false (by omega)
        rw [this]; rfl
      unfold eIf
      rw [this, R.bind_ok]
      exact ex_call (ex_cons h3 ex_nil) e'
    · unfold vp
      rw [if_pos hn, if_neg ha, lwS_pow ha]
      rfl
  · refine ⟨fr (a ^ z.natAbs) (b ^ z.natAbs), fun ρ h3 h10 => ?_, fun M => ?_⟩
    · refine ex_call (ex_cons (d := fr a b) ?_ (ex_cons (ex_call (ex_cons h10 ex_nil) bAbs_nat) ex_nil)) (law_pow_eq (by omega) A B)
      have : (tstB (eBin opGe (eVar 10) (eC (.int 0)))) ρ π = .ok true π := by
        unfold tstB
        rw [ex_bin (o := opGe) h10 rfl cmpI_int, R.bind_ok]
        have : decide ((0 : Int) ≤ z) = true := decide_eq_true (by omega)
        rw [this]; rfl
      unfold eIf
      rw [this, R.bind_ok]
      exact h3
    · unfold vp
      rw [if_neg hn]
      rfl
theorem step_12 {π0 π : PH} {u n g h : Nat} {xs ys : List D} {M : List Nat} {a b c d : Int} {x1 x2 x7 x8 x9 x10 x11 x12 : Option D} (s : St π0 π u n g h xs ys M) (hs : Sms π M 4 xs ys) (hx : xs.length = 8) (hy : ys.length = 8) (hn : n < 100) (q : Fq a b) :
    ∃ π' x10' n' p w,
    (∀ K : Sv, sSeq (sSet 10 (eBin opSub (eCall f_law_take (aCons (eVar 0) (aCons (eC (.int 121)) aNil))) (eC (.int 60)))) (sSeq (sExpr (eMeth bAppend (eVar 5) (aCons (eCall f_law_heard (aCons (eVar 3) (aCons (eVar 10) (aCons (eC (.int 2)) aNil)))) aNil))) (sSeq (sIf (tAnd2 (tstB (eBin opLt (eVar 10) (eC (.int 0)))) (tstB (eBin opEq (eBin opIx (eVar 3) (eC (.int 0))) (eC (.int 0))))) (sExpr (eMeth bAppend (eVar 6) (aCons (eLst (aCons (eC (.str ("unfit" : Str))) (aCons (eC (.bl true)) aNil))) aNil))) (sExpr (eMeth bAppend (eVar 6) (aCons (eCall f_law_pow (aCons (eIf (tstB (eBin opGe (eVar 10) (eC (.int 0)))) (eVar 3) (eCall f_law_inv (aCons (eVar 3) aNil))) (aCons (eCall bAbs (aCons (eVar 10) aNil)) aNil))) aNil)))) K)) [some (.ref u), x1, x2, some (fr a b), some (fr c d), some (.ref g), some (.ref h), x7, x8, x9, x10, x11, x12] π = K [some (.ref u), x1, x2, some (fr a b), some (fr c d), some (.ref g), some (.ref h), x7, x8, x9, x10', x11, x12] π')
    ∧ St π0 π' u n' g h (xs ++ [p]) (ys ++ [w]) M ∧ Sms π' M 4 (xs ++ [p]) (ys ++ [w]) ∧ n' ≤ n + 1 := by
  have A := q.A.mono (show 21 ≤ 100 by decide)
  have B := q.B.mono (show 21 ≤ 100 by decide)
  obtain ⟨t, π1, e1, t0, t1, h1, f1, l1⟩ := take_ok' (low := 121) s.urn (by omega) (by decide) (by decide)
  have e12 : (sSet 10 (eBin opSub (eCall f_law_take (aCons (eVar 0) (aCons (eC (.int 121)) aNil))) (eC (.int 60)))) [some (.ref u), x1, x2, some (fr a b), some (fr c d), some (.ref g), some (.ref h), x7, x8, x9, x10, x11, x12] π = .nx [some (.ref u), x1, x2, some (fr a b), some (fr c d), some (.ref g), some (.ref h), x7, x8, x9, some (.int (t - 60)), x11, x12] π1 := by
    simp only [runB, sSeq, sSet, sRet, sIf, sNil, sExpr, sAsg, sRaise0, sPar, sPar3, sStore, eVar, eC, eBin, eUn, eCall, eTup, eIf, eAnd, eOr, eNot, aNil, aCons, tst, tstB, tNot1, tAnd2, tOr2, trD, truV, blD, R.bind_ok, R.bind_bad, R.bind_exc, R.then_ok, R.then_bad, R.then_exc, opAdd_int, opSub_int, opNeg_int, cmpI_int, opIx_t0, opIx_t1, bGcd_int, bAbs_nat, bInt_int, bInt_tt, bInt_ff, bLen_tup, decide_true, decide_false, Bool.not_true, Bool.not_false, opEq_int, opNe_int, opEq_bl, opNe_bl, List.length_cons, List.length_nil, List.map_cons, List.map_nil, List.replicate, List.cons_append, List.nil_append, List.getElem?_cons_zero, List.getElem?_cons_succ, List.set_cons_zero, List.set_cons_succ, Nat.reduceAdd, Nat.reduceSub, Nat.reduceLeDiff, if_true, if_false, ite_true, ite_false, le_LEN, e1]
  have s1 := s.draw f1 h1 (by omega)
  have hs1 := hs.imp fun x y q => q.keep (fr_u f1 s.mu)
  obtain ⟨p, π2, e2, v2, f2, l2⟩ := heard2 (a := a) (b := b) (z := t - 60) s1.lt q.f.1 A B (by omega)
  have s2 := s1.nil f2 l2
  have e13 := append_ok (i := 5) (ρ := [some (.ref u), x1, x2, some (fr a b), some (fr c d), some (.ref g), some (.ref h), x7, x8, x9, some (.int (t - 60)), x11, x12]) (π := π1) rfl s1.hg
    (ex_cons (ex_call (f := f_law_heard) (ex_cons rfl (ex_cons rfl (ex_cons rfl ex_nil))) e2) ex_nil : (aCons (eCall f_law_heard (aCons (eVar 3) (aCons (eVar 10) (aCons (eC (.int 2)) aNil)))) aNil) _ _ = _) s2.hg (by rw [hx]; decide)
  have s3 := s2.setG (zs := xs ++ [p])
  have v3 := v2.keep (fr_in (c := .lst (xs ++ [p])) s2.mg)
  have hs3 := hs1.imp fun x y q => (q.keep f2.nil).keep (fr_in (c := .lst (xs ++ [p])) s2.mg)
  by_cases h0 : t - 60 < 0 ∧ a = 0
  · obtain ⟨h0, h0'⟩ := h0
    have s4 := s3.nil (fr_app _ [U]) (by simp)
    have v4 : Va (π2.set g (.lst (xs ++ [p])) ++ [U]) M (vp a b (t - 60)) (.ref (π2.set g (.lst (xs ++ [p]))).length) := by
      unfold vp
      rw [if_pos h0, if_pos h0']
      exact va_new s3.lt
    have e14 := append_ok (i := 6) (ρ := [some (.ref u), x1, x2, some (fr a b), some (fr c d), some (.ref g), some (.ref h), x7, x8, x9, some (.int (t - 60)), x11, x12]) rfl s3.hh
      (ex_cons (ex_lst (ex_cons rfl (ex_cons rfl ex_nil)) (show 2 ≤ LEN by decide)) ex_nil : (aCons (eLst (aCons (eC (.str ("unfit" : Str))) (aCons (eC (.bl true)) aNil))) aNil) _ _ = _) s4.hh (by rw [hy]; decide)
    have et : (tAnd2 (tstB (eBin opLt (eVar 10) (eC (.int 0)))) (tstB (eBin opEq (eBin opIx (eVar 3) (eC (.int 0))) (eC (.int 0))))) [some (.ref u), x1, x2, some (fr a b), some (fr c d), some (.ref g), some (.ref h), x7, x8, x9, some (.int (t - 60)), x11, x12] (π2.set g (.lst (xs ++ [p]))) = .ok true (π2.set g (.lst (xs ++ [p]))) := by
      simp only [runB, sSeq, sSet, sRet, sIf, sNil, sExpr, sAsg, sRaise0, sPar, sPar3, sStore, eVar, eC, eBin, eUn, eCall, eTup, eIf, eAnd, eOr, eNot, aNil, aCons, tst, tstB, tNot1, tAnd2, tOr2, trD, truV, blD, R.bind_ok, R.bind_bad, R.bind_exc, R.then_ok, R.then_bad, R.then_exc, opAdd_int, opSub_int, opNeg_int, cmpI_int, opIx_t0, opIx_t1, bGcd_int, bAbs_nat, bInt_int, bInt_tt, bInt_ff, bLen_tup, decide_true, decide_false, Bool.not_true, Bool.not_false, opEq_int, opNe_int, opEq_bl, opNe_bl, List.length_cons, List.length_nil, List.map_cons, List.map_nil, List.replicate, List.cons_append, List.nil_append, List.getElem?_cons_zero, List.getElem?_cons_succ, List.set_cons_zero, List.set_cons_succ, Nat.reduceAdd, Nat.reduceSub, Nat.reduceLeDiff, if_true, if_false, ite_true, ite_false, le_LEN, h0, h0', BEq.rfl]
    refine ⟨_, _, _, p, _, fun K => ex_seq e12 (ex_seq e13 (ex_seq (ex_ifT et e14) rfl)), s4.setH (zs := ys ++ [.ref (π2.set g (.lst (xs ++ [p]))).length]), ?_, Nat.le_refl _⟩
    refine Sms.app (us := [p]) (vs := [.ref (π2.set g (.lst (xs ++ [p]))).length]) ⟨((v3.keep (fr_app _ _)).keep (fr_in s4.mh)).sm (v4.keep (fr_in s4.mh)), trivial⟩ ?_
    exact hs3.imp fun x y q => (q.keep (fr_app _ _)).keep (fr_in s4.mh)
  · obtain ⟨w, e3, v4⟩ := vp_due (π := π2.set g (.lst (xs ++ [p]))) (z := t - 60) q (by omega) h0
    have e14 := append_ok (i := 6) (ρ := [some (.ref u), x1, x2, some (fr a b), some (fr c d), some (.ref g), some (.ref h), x7, x8, x9, some (.int (t - 60)), x11, x12]) rfl s3.hh
      (ex_cons (e3 _ rfl rfl) ex_nil) s3.hh (by rw [hy]; decide)
    have et : (tAnd2 (tstB (eBin opLt (eVar 10) (eC (.int 0)))) (tstB (eBin opEq (eBin opIx (eVar 3) (eC (.int 0))) (eC (.int 0))))) [some (.ref u), x1, x2, some (fr a b), some (fr c d), some (.ref g), some (.ref h), x7, x8, x9, some (.int (t - 60)), x11, x12] (π2.set g (.lst (xs ++ [p]))) = .ok false (π2.set g (.lst (xs ++ [p]))) := by
      by_cases h1 : t - 60 < 0
      · have h2 : a ≠ 0 := fun e => h0 ⟨h1, e⟩
        simp only [runB, sSeq, sSet, sRet, sIf, sNil, sExpr, sAsg, sRaise0, sPar, sPar3, sStore, eVar, eC, eBin, eUn, eCall, eTup, eIf, eAnd, eOr, eNot, aNil, aCons, tst, tstB, tNot1, tAnd2, tOr2, trD, truV, blD, R.bind_ok, R.bind_bad, R.bind_exc, R.then_ok, R.then_bad, R.then_exc, opAdd_int, opSub_int, opNeg_int, cmpI_int, opIx_t0, opIx_t1, bGcd_int, bAbs_nat, bInt_int, bInt_tt, bInt_ff, bLen_tup, decide_true, decide_false, Bool.not_true, Bool.not_false, opEq_int, opNe_int, opEq_bl, opNe_bl, List.length_cons, List.length_nil, List.map_cons, List.map_nil, List.replicate, List.cons_append, List.nil_append, List.getElem?_cons_zero, List.getElem?_cons_succ, List.set_cons_zero, List.set_cons_succ, Nat.reduceAdd, Nat.reduceSub, Nat.reduceLeDiff, if_true, if_false, ite_true, ite_false, le_LEN, h1, beq_eq_false_iff_ne.mpr h2]
      · simp only [runB, sSeq, sSet, sRet, sIf, sNil, sExpr, sAsg, sRaise0, sPar, sPar3, sStore, eVar, eC, eBin, eUn, eCall, eTup, eIf, eAnd, eOr, eNot, aNil, aCons, tst, tstB, tNot1, tAnd2, tOr2, trD, truV, blD, R.bind_ok, R.bind_bad, R.bind_exc, R.then_ok, R.then_bad, R.then_exc, opAdd_int, opSub_int, opNeg_int, cmpI_int, opIx_t0, opIx_t1, bGcd_int, bAbs_nat, bInt_int, bInt_tt, bInt_ff, bLen_tup, decide_true, decide_false, Bool.not_true, Bool.not_false, opEq_int, opNe_int, opEq_bl, opNe_bl, List.length_cons, List.length_nil, List.map_cons, List.map_nil, List.replicate, List.cons_append, List.nil_append, List.getElem?_cons_zero, List.getElem?_cons_succ, List.set_cons_zero, List.set_cons_succ, Nat.reduceAdd, Nat.reduceSub, Nat.reduceLeDiff, if_true, if_false, ite_true, ite_false, le_LEN, h1]
    refine ⟨_, _, _, p, w, fun K => ex_seq e12 (ex_seq e13 (ex_seq (ex_ifF et e14) rfl)), s3.setH (zs := ys ++ [w]), ?_, Nat.le_refl _⟩
    refine Sms.app (us := [p]) (vs := [w]) ⟨(v3.keep (fr_in s3.mh)).sm ((v4 _).keep (fr_in s3.mh)), trivial⟩ ?_
    exact hs3.imp fun x y q => q.keep (fr_in s3.mh)
theorem step_15 {π0 π : PH} {u n g h : Nat} {xs ys : List D} {M : List Nat} {x1 x2 x3 x4 x7 x8 x9 x10 x11 x12 : Option D} (s : St π0 π u n g h xs ys M) (hs : Sms π M 4 xs ys) (hx : xs.length = 9) (hy : ys.length = 9) (hn : n ≤ 50) :
    ∃ ρ' π', sSeq (sFor (iRng (aCons (eC (.int 4)) aNil)) (vName 11) (sSeq (sSet 12 (eCall f_law_thing (aCons (eVar 0) aNil))) (sSeq (sExpr (eMeth bAppend (eVar 5) (aCons (eCall f_is_fraction (aCons (eVar 12) aNil)) aNil))) (sExpr (eMeth bAppend (eVar 6) (aCons (eCall f_law_is_frac (aCons (eVar 12) aNil)) aNil)))))) (sIf (tNot1 (tst (eCall (f_law_same 40) (aCons (eVar 5) (aCons (eVar 6) aNil))))) (sRet (eC (.bl false))) sNil) [some (.ref u), x1, x2, x3, x4, some (.ref g), some (.ref h), x7, x8, x9, x10, x11, x12] π = .nx ρ' π' ∧ Lb.Fr [u] π0 π' := by
  obtain ⟨ρ', π', e, y11, y12, n', xs', ys', q1, q2, q3, q4, q5, q6⟩ := for_run (src := srcRng 0 4) (tv := vName 11) (body := sSeq (sSet 12 (eCall f_law_thing (aCons (eVar 0) aNil)))
      (sSeq (sExpr (eMeth bAppend (eVar 5) (aCons (eCall f_is_fraction (aCons (eVar 12) aNil)) aNil)))
        (sExpr (eMeth bAppend (eVar 6) (aCons (eCall f_law_is_frac (aCons (eVar 12) aNil)) aNil)))))
    (N := 4) (fun i ρ π' => ∃ y11 y12 n' xs' ys', ρ = [some (.ref u), x1, x2, x3, x4, some (.ref g), some (.ref h), x7, x8, x9, x10, y11, y12] ∧ St π0 π' u n' g h xs' ys' M ∧ n' ≤ 50 + 5 * i ∧ Sms π' M 4 xs' ys' ∧ xs'.length = 9 + i ∧ ys'.length = 9 + i)
    (fun ρ π' _ => src_rng_stop)
    (fun i ρ π' hi ⟨y11, y12, n', xs', ys', q1, q2, q3, q4, q5, q6⟩ => by
      subst q1
      obtain ⟨m, π2, z, n2, e1, s2, hn2, hs2⟩ := thing_step (ρ := []) (x1 := x1) (x2 := x2) (x3 := x3) (x4 := x4) (x7 := x7) (x8 := x8) (x9 := x9) (x10 := x10) (x11 := some (.int (0 + (i : Nat)))) (x12 := y12) q2 (by omega) q4 (by omega) (by omega)
      exact ⟨_, _, _, _, src_rng_lt hi, rfl, e1, _, _, n2, _, _, rfl, s2, by omega, hs2, by simp only [List.length_append, List.length_singleton]; omega, by simp only [List.length_append, List.length_singleton]; omega⟩)
    FU 0 [some (.ref u), x1, x2, x3, x4, some (.ref g), some (.ref h), x7, x8, x9, x10, x11, x12] π ⟨x11, x12, n, xs, ys, rfl, s, by omega, hs, by omega, by omega⟩ (Nat.zero_le _) (FU_big (by decide))
  subst q1
  have sm : Sm π' [] 40 (.ref g) (.ref h) := Sm.to (j := 40) (.lst 4 _ _ _ _ q2.hg q2.hh List.not_mem_nil List.not_mem_nil (by omega) (Nat.le_trans (show ys'.length ≤ 13 by omega) (by decide)) (q4.imp fun x y q => q.less fun _ r => (List.not_mem_nil r).elim).get) (by decide)
  obtain ⟨π2, e2, f2⟩ := same_ok sm
  rw [← same_id] at e2
  refine ⟨[some (.ref u), x1, x2, x3, x4, some (.ref g), some (.ref h), x7, x8, x9, x10, y11, y12], π2, ex_seq (ex_for (iRng_ok (j := 4) (ex_cons rfl ex_nil) (by decide)) e) ?_, q2.old.trans f2.nil⟩
  · refine ex_ifF (π1 := π2) ?_ rfl
    have e3 := ex_call (f := f_law_same 40) (ρ := [some (.ref u), x1, x2, x3, x4, some (.ref g), some (.ref h), x7, x8, x9, x10, y11, y12]) (ex_cons (rfl : eVar 5 _ π' = _) (ex_cons (rfl : eVar 6 _ π' = _) ex_nil)) e2
    unfold tNot1 tst
    rw [e3]
    rfl
theorem right_body {π : PH} {u : Nat} (h : Urn π u 0) : ∃ ρ' π', (sSeq (sSet 2 (eBin opEq (eCall f_law_take (aCons (eVar 0) (aCons (eC (.int 3)) aNil))) (eC (.int 0)))) (sSeq (sPar 3 4 (eCall f_law_frac (aCons (eVar 0) (aCons (eVar 2) aNil))) (eCall f_law_frac (aCons (eVar 0) (aCons (eOr (eVar 2) (eBin opEq (eCall f_law_take (aCons (eVar 0) (aCons (eC (.int 4)) aNil))) (eC (.int 0)))) aNil)))) (sSeq (sIf (tstB (eBin opEq (eCall f_law_take (aCons (eVar 0) (aCons (eC (.int 8)) aNil))) (eC (.int 0)))) (sSet 4 (eCall f_law_of (aCons (eVar 0) (aCons (eLst (aCons (eVar 3) (aCons (eCall f_law_neg (aCons (eVar 3) aNil)) (aCons (eTup (aCons (eC (.int 0)) (aCons (eC (.int 1)) aNil))) aNil)))) aNil)))) sNil) (sSeq (sSet 5 (eLst (aCons (eCall f_plus (aCons (eVar 3) (aCons (eVar 4) aNil))) (aCons (eCall f_minus (aCons (eVar 3) (aCons (eVar 4) aNil))) (aCons (eCall f_times (aCons (eVar 3) (aCons (eVar 4) aNil))) (aCons (eCall f_is_less (aCons (eVar 3) (aCons (eVar 4) aNil))) (aCons (eCall f_sign_of (aCons (eVar 3) aNil)) (aCons (eCall f_whole (aCons (eBin opIx (eVar 3) (eC (.int 0))) aNil)) aNil)))))))) (sSeq (sSet 6 (eLst (aCons (eCall f_law_add (aCons (eVar 3) (aCons (eVar 4) aNil))) (aCons (eCall f_law_add (aCons (eVar 3) (aCons (eCall f_law_neg (aCons (eVar 4) aNil)) aNil))) (aCons (eCall f_law_mul (aCons (eVar 3) (aCons (eVar 4) aNil))) aNil))))) (sSeq (sSet 7 (eBin opSub (eBin opMul (eBin opIx (eVar 3) (eC (.int 0))) (eBin opIx (eVar 4) (eC (.int 1)))) (eBin opMul (eBin opIx (eVar 4) (eC (.int 0))) (eBin opIx (eVar 3) (eC (.int 1)))))) (sSeq (sSet 6 (eBin opAdd (eVar 6) (eLst (aCons (eBin opLt (eVar 7) (eC (.int 0))) (aCons (eBin opSub (eCall bInt (aCons (eBin opGt (eBin opIx (eVar 3) (eC (.int 0))) (eC (.int 0))) aNil)) (eCall bInt (aCons (eBin opLt (eBin opIx (eVar 3) (eC (.int 0))) (eC (.int 0))) aNil))) (aCons (eTup (aCons (eBin opIx (eVar 3) (eC (.int 0))) (aCons (eC (.int 1)) aNil))) aNil)))))) (sSeq (sPar 8 9 (eBin opMul (eBin opSub (eCall f_law_take (aCons (eVar 0) (aCons (eC (.int 2001)) aNil))) (eC (.int 1000))) (eBin opIx (eVar 3) (eC (.int 1)))) (eBin opMul (eBin opSub (eCall f_law_take (aCons (eVar 0) (aCons (eC (.int 2001)) aNil))) (eC (.int 1000))) (eBin opIx (eVar 3) (eC (.int 1))))) (sSeq (sSet 5 (eBin opAdd (eVar 5) (eLst (aCons (eCall f_law_heard (aCons (eVar 8) (aCons (eVar 9) (aCons (eC (.int 0)) aNil)))) (aCons (eCall f_law_heard (aCons (eVar 3) (aCons (eVar 4) (aCons (eC (.int 1)) aNil)))) aNil))))) (sSeq (sSet 6 (eBin opAdd (eVar 6) (eLst (aCons (eIf (tstB (eBin opNe (eVar 9) (eC (.int 0)))) (eCall f_law_low (aCons (eVar 8) (aCons (eVar 9) aNil))) (eLst (aCons (eC (.str ("unfit" : Str))) (aCons (eC (.bl true)) aNil)))) aNil)))) (sSeq (sSet 6 (eBin opAdd (eVar 6) (eLst (aCons (eIf (tstB (eBin opNe (eBin opIx (eVar 4) (eC (.int 0))) (eC (.int 0)))) (eCall f_law_mul (aCons (eVar 3) (aCons (eCall f_law_inv (aCons (eVar 4) aNil)) aNil))) (eLst (aCons (eC (.str ("unfit" : Str))) (aCons (eC (.bl true)) aNil)))) aNil)))) (sSeq (sSet 10 (eBin opSub (eCall f_law_take (aCons (eVar 0) (aCons (eC (.int 121)) aNil))) (eC (.int 60)))) (sSeq (sExpr (eMeth bAppend (eVar 5) (aCons (eCall f_law_heard (aCons (eVar 3) (aCons (eVar 10) (aCons (eC (.int 2)) aNil)))) aNil))) (sSeq (sIf (tAnd2 (tstB (eBin opLt (eVar 10) (eC (.int 0)))) (tstB (eBin opEq (eBin opIx (eVar 3) (eC (.int 0))) (eC (.int 0))))) (sExpr (eMeth bAppend (eVar 6) (aCons (eLst (aCons (eC (.str ("unfit" : Str))) (aCons (eC (.bl true)) aNil))) aNil))) (sExpr (eMeth bAppend (eVar 6) (aCons (eCall f_law_pow (aCons (eIf (tstB (eBin opGe (eVar 10) (eC (.int 0)))) (eVar 3) (eCall f_law_inv (aCons (eVar 3) aNil))) (aCons (eCall bAbs (aCons (eVar 10) aNil)) aNil))) aNil)))) (sSeq (sFor (iRng (aCons (eC (.int 4)) aNil)) (vName 11) (sSeq (sSet 12 (eCall f_law_thing (aCons (eVar 0) aNil))) (sSeq (sExpr (eMeth bAppend (eVar 5) (aCons (eCall f_is_fraction (aCons (eVar 12) aNil)) aNil))) (sExpr (eMeth bAppend (eVar 6) (aCons (eCall f_law_is_frac (aCons (eVar 12) aNil)) aNil)))))) (sIf (tNot1 (tst (eCall (f_law_same 40) (aCons (eVar 5) (aCons (eVar 6) aNil))))) (sRet (eC (.bl false))) sNil)))))))))))))))) [some (.ref u), some (.int (0 + (0 : Nat))), none, none, none, none, none, none, none, none, none, none, none] π = .nx ρ' π' ∧ Lb.Fr [u] π π' := by
  obtain ⟨t, π1, e1, t0, t1, h1, f1, l1⟩ := take_ok' (low := 3) h (by decide) (by decide) (by decide)
  have e1' : (sSet 2 (eBin opEq (eCall f_law_take (aCons (eVar 0) (aCons (eC (.int 3)) aNil))) (eC (.int 0)))) [some (.ref u), some (.int (0 + (0 : Nat))), none, none, none, none, none, none, none, none, none, none, none] π = .nx [some (.ref u), some (.int (0 + (0 : Nat))), some (.bl (t == 0)), none, none, none, none, none, none, none, none, none, none] π1 := by
    simp only [runB, sSeq, sSet, sRet, sIf, sNil, sExpr, sAsg, sRaise0, sPar, sPar3, sStore, eVar, eC, eBin, eUn, eCall, eTup, eIf, eAnd, eOr, eNot, aNil, aCons, tst, tstB, tNot1, tAnd2, tOr2, trD, truV, blD, R.bind_ok, R.bind_bad, R.bind_exc, R.then_ok, R.then_bad, R.then_exc, opAdd_int, opSub_int, opNeg_int, cmpI_int, opIx_t0, opIx_t1, bGcd_int, bAbs_nat, bInt_int, bInt_tt, bInt_ff, bLen_tup, decide_true, decide_false, Bool.not_true, Bool.not_false, opEq_int, opNe_int, opEq_bl, opNe_bl, List.length_cons, List.length_nil, List.map_cons, List.map_nil, List.replicate, List.cons_append, List.nil_append, List.getElem?_cons_zero, List.getElem?_cons_succ, List.set_cons_zero, List.set_cons_succ, Nat.reduceAdd, Nat.reduceSub, Nat.reduceLeDiff, if_true, if_false, ite_true, ite_false, le_LEN, e1]
  obtain ⟨a, b, c0, d0, π2, n2, e2, q, q0, h2, hn2, ff2, ll2⟩ := step_2 (x1 := some (.int (0 + (0 : Nat)))) (x3 := none) (x4 := none) (x5 := none) (x6 := none) (x7 := none) (x8 := none) (x9 := none) (x10 := none) (x11 := none) (x12 := none) (w := t == 0) h1 (by decide)
  obtain ⟨c, d, π3, n3, e3, q', h3, hn3, ff3, ll3⟩ := step_3 (x1 := some (.int (0 + (0 : Nat)))) (x2 := some (.bl (t == 0))) (x5 := none) (x6 := none) (x7 := none) (x8 := none) (x9 := none) (x10 := none) (x11 := none) (x12 := none) h2 (by omega) q q0
  obtain ⟨π4, g4, k4, xs4, y7, M4, e4, s4, hs4, hx4⟩ := step_4 (x1 := some (.int (0 + (0 : Nat)))) (x2 := some (.bl (t == 0))) (x5 := none) (x6 := none) (x7 := none) (x8 := none) (x9 := none) (x10 := none) (x11 := none) (x12 := none) h3 ((f1.trans ff2).trans ff3) (by omega) q q'
  obtain ⟨π5, g5, k5, xs5, ys5, y8, y9, n5, M5, e5, s5, hs5, hx5, hy5, hn5⟩ := step_8 (x1 := some (.int (0 + (0 : Nat)))) (x2 := some (.bl (t == 0))) (x7 := y7) (x8 := none) (x9 := none) (x10 := none) (x11 := none) (x12 := none) s4 hs4 hx4 (by omega) q q'
  obtain ⟨π6, y10, n6, p6, w6, e6, s6, hs6, hn6⟩ := step_12 (c := c) (d := d) (x1 := some (.int (0 + (0 : Nat)))) (x2 := some (.bl (t == 0))) (x7 := y7) (x8 := y8) (x9 := y9) (x10 := none) (x11 := none) (x12 := none) s5 hs5 hx5 hy5 (by omega) q
  obtain ⟨ρ', π', e7, f7⟩ := step_15 (x1 := some (.int (0 + (0 : Nat)))) (x2 := some (.bl (t == 0))) (x3 := some (fr a b)) (x4 := some (fr c d)) (x7 := y7) (x8 := y8) (x9 := y9) (x10 := y10) (x11 := none) (x12 := none) s6 hs6 (by rw [List.length_append, hx5]; rfl) (by rw [List.length_append, hy5]; rfl) (by omega)
  refine ⟨ρ', π', ex_seq e1' (ex_seq e2 (ex_seq e3 ?_)), f7⟩
  rw [e4, e5, e6]
  exact e7
end G
set_option Elab.async false
set_option linter.all false
set_option maxRecDepth 100000
set_option maxHeartbeats 4000000
namespace G
open PySem Lb
theorem right_ok {π : PH} {u : Nat} (h : Urn π u 0) : ∃ π', f_law_right [.ref u] π = .ok (.bl true) π' ∧ Lb.Fr [u] π π' := by
  obtain ⟨ρ1, π1, e1, f1⟩ := right_body h
  refine ⟨π1, ?_, f1⟩
  obtain ⟨ρ', π', e, q⟩ := for_run (src := srcRng 0 1) (tv := vName 1) (body := _) (N := 1) (fun i ρ π' => (i = 0 ∧ ρ = [some (.ref u), none, none, none, none, none, none, none, none, none, none, none, none] ∧ π' = π) ∨ (i = 1 ∧ ρ = ρ1 ∧ π' = π1))
    (fun ρ π' _ => src_rng_stop)
    (fun i ρ π' hi q => by
      rcases q with ⟨rfl, rfl, rfl⟩ | ⟨rfl, _⟩
      · exact ⟨_, _, ρ1, π1, src_rng_lt (by decide), rfl, e1, .inr ⟨rfl, rfl, rfl⟩⟩
      · omega)
    FU 0 [some (.ref u), none, none, none, none, none, none, none, none, none, none, none, none] π (.inl ⟨rfl, rfl, rfl⟩) (Nat.zero_le _) (FU_big (by decide))
  rcases q with ⟨q, _⟩ | ⟨_, rfl, rfl⟩
  · cases q
  · exact ex_runB rfl (ex_seq (ex_for (iRng_ok (j := 1) (ex_cons rfl ex_nil) (by decide)) e) (ex_ret rfl))
theorem main_of (ns : List Int) (hl : ns.length ≤ 63) (hand : ∃ π', f_law_by_hand_right [] [.scr (ns.map D.int)] = .ok (.bl true) π' ∧ π'[0]? = some (.scr (ns.map D.int))) : ∃ π, f_law [.ref 0] [.scr (ns.map D.int)] = .ok (.bl true) π := by
  obtain ⟨π1, e1, hs1⟩ := hand
  obtain ⟨r, π2, cs, e2, hr, hc0, hc1, f2⟩ := cells_ok (top := 3) (s := 0) hs1 (by decide) (by decide) (Nat.le_trans hl (by decide))
  rw [← cells_id] at e2
  obtain ⟨acc, π', e, ⟨i1, i2, i3⟩⟩ := lc_run (src := srcRng 0 cs.length) (tv := vName 2) (tc := noTest) (te := eCall f_law_right (aCons (eCall f_law_box (aCons (eVar 1) (aCons (eVar 2) aNil))) aNil)) (ρ := [some (.ref 0), some (.ref r), none]) (n := π2.length) (N := cs.length)
    (fun i acc π' => π'[π2.length]? = some (.lst acc) ∧ acc = List.replicate i (.bl true) ∧ π'[r]? = some (.lst (cs.map D.int)))
    (fun acc π' _ => src_rng_stop)
    (fun i acc π' hi ⟨h1, h2, h3⟩ => by
      obtain ⟨π3, e3, hu, f3⟩ := box_ok h3 hi (by omega)
      obtain ⟨π4, e4, f4⟩ := right_ok hu
      have l1 := lt_of_at h1
      have l2 := lt_of_at h3
      have l3 := lt_of_at hr
      have p1 : π4[π2.length]? = some (.lst acc) := f4 _ _ (by rw [List.mem_singleton]; omega) (f3 _ _ List.not_mem_nil h1)
      have p2 : π4[r]? = some (.lst (cs.map D.int)) := f4 _ _ (by rw [List.mem_singleton]; omega) (f3 _ _ List.not_mem_nil h3)
      rw [← box_id] at e3
      refine ⟨_, _, .bl true, π4, src_rng_lt hi, rfl, rfl, ex_call (ex_cons (ex_call (ex_cons rfl (ex_cons (d := .int (i : Nat)) ?_ ex_nil)) e3) ex_nil) e4, p1, by rw [h2, List.length_replicate]; exact Nat.le_trans (show i ≤ 3 by omega) (by decide), at_set p1, by rw [h2, List.replicate_succ'], ?_⟩
      · show R.ok (D.int (0 + (i : Nat))) π' = _
        rw [Int.zero_add]
      · rw [List.getElem?_set_ne (by omega)]; exact p2)
    FU 0 [] (π2 ++ [.lst []]) ⟨at_len, rfl, fr_app (M := []) _ _ _ _ List.not_mem_nil hr⟩ (Nat.zero_le _) (FU_big (by omega))
  have eb : eCall bLen (aCons (eVar 1) aNil) [some (.ref 0), some (.ref r), none] π2 = .ok (.int (cs.length : Nat)) π2 := by
    refine ex_call (ex_cons rfl ex_nil) ?_
    rw [bLen_ref hr, List.length_map]
  have el := ex_lc (vs := [2]) (iRng_ok (ex_cons eb ex_nil) (smallI_of (by omega) (by omega))) rfl e
  refine ⟨π', ?_⟩
  refine ex_runB rfl (ex_seq (ex_ifF (π1 := π1) ?_ rfl) (ex_seq (ex_set (ex_call (ex_cons rfl (ex_cons rfl ex_nil)) e2)) (ex_ret (ex_call (ex_cons el ex_nil) ?_))))
  · unfold tNot1 tst
    rw [ex_call (f := f_law_by_hand_right) ex_nil e1]
    rfl
  · unfold bAll onL items
    simp only [i1, i2, bools_rep, all_rep]
end G
set_option Elab.async false
set_option linter.all false
set_option maxRecDepth 1000000
namespace G
open PySem Lb
def okS (r : R D) : Option PO := match r with
  | .ok (.bl true) π => π[0]?
  | _ => none
theorem okS_ok {r : R D} {c : PO} (h : okS r = some c) : ∃ π', r = .ok (.bl true) π' ∧ π'[0]? = some c := by
  unfold okS at h
  split at h
  · exact ⟨_, rfl, h⟩
  · cases h
set_option maxHeartbeats 0 in
theorem hand (xs : List D) : okS (f_law_by_hand_right [] [.scr xs]) = some (.scr xs) := by
  kernel_rfl
theorem main_law (ns : List Int) (hl : ns.length ≤ 63) (hb : ∀ z ∈ ns, PySem.Builtin.Int.intBits z ≤ 1048576) : ∃ π, G.f_law [.ref 0] [.scr (ns.map Lb.D.int)] = .ok (.bl true) π :=
  main_of ns hl (okS_ok (hand _))
end G
set_option Elab.async false
set_option linter.all false
set_option maxRecDepth 100000
set_option maxHeartbeats 4000000
namespace G
open PySem PySem.Spec PyProof.Rows L2 Lb
theorem all_mk {P : Program} {wd : World} {K : PySem.W.Frag} {h : Heap} {mg : Str → Option Value} {fa : Addr} (X : K.In h) (G : h.Ns mainGlobals mg) (hfa : mg "law" = some (.ref fa))
    {f0 : Addr} {od0 an0 : Option Addr} {sl0 : Array (Option Value)} {oc0 kV0 dc0 pm0 cd0 ct0 : Value}
    (a0 : PySem.W.nsIn K mainGlobals "_law_box" = some (some (.ref f0))) (l0 : K.lookup f0 = some ⟨oc0, od0, .func (PySem.W.fnOf "_law_box" "_law_box" (defArgs st_law_box) (defBody st_law_box) (defScope st_law_box) .none kV0 dc0 pm0 an0 cd0 ct0), sl0⟩) (c0 : PySem.W.codeIn K cd0 "_law_box" = true) (k0 : PySem.W.keepIn K (.ref f0) = true)
    {f1 : Addr} {od1 an1 : Option Addr} {sl1 : Array (Option Value)} {oc1 kV1 dc1 pm1 cd1 ct1 : Value}
    (a1 : PySem.W.nsIn K mainGlobals "_lowest" = some (some (.ref f1))) (l1 : K.lookup f1 = some ⟨oc1, od1, .func (PySem.W.fnOf "_lowest" "_lowest" (defArgs st_lowest) (defBody st_lowest) (defScope st_lowest) .none kV1 dc1 pm1 an1 cd1 ct1), sl1⟩) (c1 : PySem.W.codeIn K cd1 "_lowest" = true) (k1 : PySem.W.keepIn K (.ref f1) = true)
    {f2 : Addr} {od2 an2 : Option Addr} {sl2 : Array (Option Value)} {oc2 kV2 dc2 pm2 cd2 ct2 : Value}
    (a2 : PySem.W.nsIn K mainGlobals "fraction" = some (some (.ref f2))) (l2 : K.lookup f2 = some ⟨oc2, od2, .func (PySem.W.fnOf "fraction" "fraction" (defArgs st_fraction) (defBody st_fraction) (defScope st_fraction) .none kV2 dc2 pm2 an2 cd2 ct2), sl2⟩) (c2 : PySem.W.codeIn K cd2 "fraction" = true) (k2 : PySem.W.keepIn K (.ref f2) = true)
    {f3 : Addr} {od3 an3 : Option Addr} {sl3 : Array (Option Value)} {oc3 kV3 dc3 pm3 cd3 ct3 : Value}
    (a3 : PySem.W.nsIn K mainGlobals "over" = some (some (.ref f3))) (l3 : K.lookup f3 = some ⟨oc3, od3, .func (PySem.W.fnOf "over" "over" (defArgs st_over) (defBody st_over) (defScope st_over) .none kV3 dc3 pm3 an3 cd3 ct3), sl3⟩) (c3 : PySem.W.codeIn K cd3 "over" = true) (k3 : PySem.W.keepIn K (.ref f3) = true)
    {f4 : Addr} {od4 an4 : Option Addr} {sl4 : Array (Option Value)} {oc4 kV4 dc4 pm4 cd4 ct4 : Value}
    (a4 : PySem.W.nsIn K mainGlobals "number_power" = some (some (.ref f4))) (l4 : K.lookup f4 = some ⟨oc4, od4, .func (PySem.W.fnOf "number_power" "number_power" (defArgs st_number_power) (defBody st_number_power) (defScope st_number_power) .none kV4 dc4 pm4 an4 cd4 ct4), sl4⟩) (c4 : PySem.W.codeIn K cd4 "number_power" = true) (k4 : PySem.W.keepIn K (.ref f4) = true)
    {f5 : Addr} {od5 an5 : Option Addr} {sl5 : Array (Option Value)} {oc5 kV5 dc5 pm5 cd5 ct5 : Value}
    (a5 : PySem.W.nsIn K mainGlobals "power_of" = some (some (.ref f5))) (l5 : K.lookup f5 = some ⟨oc5, od5, .func (PySem.W.fnOf "power_of" "power_of" (defArgs st_power_of) (defBody st_power_of) (defScope st_power_of) .none kV5 dc5 pm5 an5 cd5 ct5), sl5⟩) (c5 : PySem.W.codeIn K cd5 "power_of" = true) (k5 : PySem.W.keepIn K (.ref f5) = true)
    {f6 : Addr} {od6 an6 : Option Addr} {sl6 : Array (Option Value)} {oc6 kV6 dc6 pm6 cd6 ct6 : Value}
    (a6 : PySem.W.nsIn K mainGlobals "_law_heard" = some (some (.ref f6))) (l6 : K.lookup f6 = some ⟨oc6, od6, .func (PySem.W.fnOf "_law_heard" "_law_heard" (defArgs st_law_heard) (defBody st_law_heard) (defScope st_law_heard) .none kV6 dc6 pm6 an6 cd6 ct6), sl6⟩) (c6 : PySem.W.codeIn K cd6 "_law_heard" = true) (k6 : PySem.W.keepIn K (.ref f6) = true)
    {f7 : Addr} {od7 an7 : Option Addr} {sl7 : Array (Option Value)} {oc7 kV7 dc7 pm7 cd7 ct7 : Value}
    (a7 : PySem.W.nsIn K mainGlobals "_law_same" = some (some (.ref f7))) (l7 : K.lookup f7 = some ⟨oc7, od7, .func (PySem.W.fnOf "_law_same" "_law_same" (defArgs st_law_same) (defBody st_law_same) (defScope st_law_same) .none kV7 dc7 pm7 an7 cd7 ct7), sl7⟩) (c7 : PySem.W.codeIn K cd7 "_law_same" = true) (k7 : PySem.W.keepIn K (.ref f7) = true)
    {f8 : Addr} {od8 an8 : Option Addr} {sl8 : Array (Option Value)} {oc8 kV8 dc8 pm8 cd8 ct8 : Value}
    (a8 : PySem.W.nsIn K mainGlobals "is_number" = some (some (.ref f8))) (l8 : K.lookup f8 = some ⟨oc8, od8, .func (PySem.W.fnOf "is_number" "is_number" (defArgs st_is_number) (defBody st_is_number) (defScope st_is_number) .none kV8 dc8 pm8 an8 cd8 ct8), sl8⟩) (c8 : PySem.W.codeIn K cd8 "is_number" = true) (k8 : PySem.W.keepIn K (.ref f8) = true)
    {f9 : Addr} {od9 an9 : Option Addr} {sl9 : Array (Option Value)} {oc9 kV9 dc9 pm9 cd9 ct9 : Value}
    (a9 : PySem.W.nsIn K mainGlobals "is_tuple" = some (some (.ref f9))) (l9 : K.lookup f9 = some ⟨oc9, od9, .func (PySem.W.fnOf "is_tuple" "is_tuple" (defArgs st_is_tuple) (defBody st_is_tuple) (defScope st_is_tuple) .none kV9 dc9 pm9 an9 cd9 ct9), sl9⟩) (c9 : PySem.W.codeIn K cd9 "is_tuple" = true) (k9 : PySem.W.keepIn K (.ref f9) = true)
    {f10 : Addr} {od10 an10 : Option Addr} {sl10 : Array (Option Value)} {oc10 kV10 dc10 pm10 cd10 ct10 : Value}
    (a10 : PySem.W.nsIn K mainGlobals "is_fraction" = some (some (.ref f10))) (l10 : K.lookup f10 = some ⟨oc10, od10, .func (PySem.W.fnOf "is_fraction" "is_fraction" (defArgs st_is_fraction) (defBody st_is_fraction) (defScope st_is_fraction) .none kV10 dc10 pm10 an10 cd10 ct10), sl10⟩) (c10 : PySem.W.codeIn K cd10 "is_fraction" = true) (k10 : PySem.W.keepIn K (.ref f10) = true)
    {f11 : Addr} {od11 an11 : Option Addr} {sl11 : Array (Option Value)} {oc11 kV11 dc11 pm11 cd11 ct11 : Value}
    (a11 : PySem.W.nsIn K mainGlobals "is_less" = some (some (.ref f11))) (l11 : K.lookup f11 = some ⟨oc11, od11, .func (PySem.W.fnOf "is_less" "is_less" (defArgs st_is_less) (defBody st_is_less) (defScope st_is_less) .none kV11 dc11 pm11 an11 cd11 ct11), sl11⟩) (c11 : PySem.W.codeIn K cd11 "is_less" = true) (k11 : PySem.W.keepIn K (.ref f11) = true)
    {f12 : Addr} {od12 an12 : Option Addr} {sl12 : Array (Option Value)} {oc12 kV12 dc12 pm12 cd12 ct12 : Value}
    (a12 : PySem.W.nsIn K mainGlobals "minus" = some (some (.ref f12))) (l12 : K.lookup f12 = some ⟨oc12, od12, .func (PySem.W.fnOf "minus" "minus" (defArgs st_minus) (defBody st_minus) (defScope st_minus) .none kV12 dc12 pm12 an12 cd12 ct12), sl12⟩) (c12 : PySem.W.codeIn K cd12 "minus" = true) (k12 : PySem.W.keepIn K (.ref f12) = true)
    {f13 : Addr} {od13 an13 : Option Addr} {sl13 : Array (Option Value)} {oc13 kV13 dc13 pm13 cd13 ct13 : Value}
    (a13 : PySem.W.nsIn K mainGlobals "plus" = some (some (.ref f13))) (l13 : K.lookup f13 = some ⟨oc13, od13, .func (PySem.W.fnOf "plus" "plus" (defArgs st_plus) (defBody st_plus) (defScope st_plus) .none kV13 dc13 pm13 an13 cd13 ct13), sl13⟩) (c13 : PySem.W.codeIn K cd13 "plus" = true) (k13 : PySem.W.keepIn K (.ref f13) = true)
    {f14 : Addr} {od14 an14 : Option Addr} {sl14 : Array (Option Value)} {oc14 kV14 dc14 pm14 cd14 ct14 : Value}
    (a14 : PySem.W.nsIn K mainGlobals "sign_of" = some (some (.ref f14))) (l14 : K.lookup f14 = some ⟨oc14, od14, .func (PySem.W.fnOf "sign_of" "sign_of" (defArgs st_sign_of) (defBody st_sign_of) (defScope st_sign_of) .none kV14 dc14 pm14 an14 cd14 ct14), sl14⟩) (c14 : PySem.W.codeIn K cd14 "sign_of" = true) (k14 : PySem.W.keepIn K (.ref f14) = true)
    {f15 : Addr} {od15 an15 : Option Addr} {sl15 : Array (Option Value)} {oc15 kV15 dc15 pm15 cd15 ct15 : Value}
    (a15 : PySem.W.nsIn K mainGlobals "times" = some (some (.ref f15))) (l15 : K.lookup f15 = some ⟨oc15, od15, .func (PySem.W.fnOf "times" "times" (defArgs st_times) (defBody st_times) (defScope st_times) .none kV15 dc15 pm15 an15 cd15 ct15), sl15⟩) (c15 : PySem.W.codeIn K cd15 "times" = true) (k15 : PySem.W.keepIn K (.ref f15) = true)
    {f16 : Addr} {od16 an16 : Option Addr} {sl16 : Array (Option Value)} {oc16 kV16 dc16 pm16 cd16 ct16 : Value}
    (a16 : PySem.W.nsIn K mainGlobals "whole" = some (some (.ref f16))) (l16 : K.lookup f16 = some ⟨oc16, od16, .func (PySem.W.fnOf "whole" "whole" (defArgs st_whole) (defBody st_whole) (defScope st_whole) .none kV16 dc16 pm16 an16 cd16 ct16), sl16⟩) (c16 : PySem.W.codeIn K cd16 "whole" = true) (k16 : PySem.W.keepIn K (.ref f16) = true)
    {f17 : Addr} {od17 an17 : Option Addr} {sl17 : Array (Option Value)} {oc17 kV17 dc17 pm17 cd17 ct17 : Value}
    (a17 : PySem.W.nsIn K mainGlobals "_law_by_hand_right" = some (some (.ref f17))) (l17 : K.lookup f17 = some ⟨oc17, od17, .func (PySem.W.fnOf "_law_by_hand_right" "_law_by_hand_right" (defArgs st_law_by_hand_right) (defBody st_law_by_hand_right) (defScope st_law_by_hand_right) .none kV17 dc17 pm17 an17 cd17 ct17), sl17⟩) (c17 : PySem.W.codeIn K cd17 "_law_by_hand_right" = true) (k17 : PySem.W.keepIn K (.ref f17) = true)
    {f18 : Addr} {od18 an18 : Option Addr} {sl18 : Array (Option Value)} {oc18 kV18 dc18 pm18 cd18 ct18 : Value}
    (a18 : PySem.W.nsIn K mainGlobals "_law_cells" = some (some (.ref f18))) (l18 : K.lookup f18 = some ⟨oc18, od18, .func (PySem.W.fnOf "_law_cells" "_law_cells" (defArgs st_law_cells) (defBody st_law_cells) (defScope st_law_cells) .none kV18 dc18 pm18 an18 cd18 ct18), sl18⟩) (c18 : PySem.W.codeIn K cd18 "_law_cells" = true) (k18 : PySem.W.keepIn K (.ref f18) = true)
    {f19 : Addr} {od19 an19 : Option Addr} {sl19 : Array (Option Value)} {oc19 kV19 dc19 pm19 cd19 ct19 : Value}
    (a19 : PySem.W.nsIn K mainGlobals "_law_low" = some (some (.ref f19))) (l19 : K.lookup f19 = some ⟨oc19, od19, .func (PySem.W.fnOf "_law_low" "_law_low" (defArgs st_law_low) (defBody st_law_low) (defScope st_law_low) .none kV19 dc19 pm19 an19 cd19 ct19), sl19⟩) (c19 : PySem.W.codeIn K cd19 "_law_low" = true) (k19 : PySem.W.keepIn K (.ref f19) = true)
    {f20 : Addr} {od20 an20 : Option Addr} {sl20 : Array (Option Value)} {oc20 kV20 dc20 pm20 cd20 ct20 : Value}
    (a20 : PySem.W.nsIn K mainGlobals "_law_add" = some (some (.ref f20))) (l20 : K.lookup f20 = some ⟨oc20, od20, .func (PySem.W.fnOf "_law_add" "_law_add" (defArgs st_law_add) (defBody st_law_add) (defScope st_law_add) .none kV20 dc20 pm20 an20 cd20 ct20), sl20⟩) (c20 : PySem.W.codeIn K cd20 "_law_add" = true) (k20 : PySem.W.keepIn K (.ref f20) = true)
    {f21 : Addr} {od21 an21 : Option Addr} {sl21 : Array (Option Value)} {oc21 kV21 dc21 pm21 cd21 ct21 : Value}
    (a21 : PySem.W.nsIn K mainGlobals "_law_take" = some (some (.ref f21))) (l21 : K.lookup f21 = some ⟨oc21, od21, .func (PySem.W.fnOf "_law_take" "_law_take" (defArgs st_law_take) (defBody st_law_take) (defScope st_law_take) .none kV21 dc21 pm21 an21 cd21 ct21), sl21⟩) (c21 : PySem.W.codeIn K cd21 "_law_take" = true) (k21 : PySem.W.keepIn K (.ref f21) = true)
    {f22 : Addr} {od22 an22 : Option Addr} {sl22 : Array (Option Value)} {oc22 kV22 dc22 pm22 cd22 ct22 : Value}
    (a22 : PySem.W.nsIn K mainGlobals "_law_frac" = some (some (.ref f22))) (l22 : K.lookup f22 = some ⟨oc22, od22, .func (PySem.W.fnOf "_law_frac" "_law_frac" (defArgs st_law_frac) (defBody st_law_frac) (defScope st_law_frac) .none kV22 dc22 pm22 an22 cd22 ct22), sl22⟩) (c22 : PySem.W.codeIn K cd22 "_law_frac" = true) (k22 : PySem.W.keepIn K (.ref f22) = true)
    {f23 : Addr} {od23 an23 : Option Addr} {sl23 : Array (Option Value)} {oc23 kV23 dc23 pm23 cd23 ct23 : Value}
    (a23 : PySem.W.nsIn K mainGlobals "_law_inv" = some (some (.ref f23))) (l23 : K.lookup f23 = some ⟨oc23, od23, .func (PySem.W.fnOf "_law_inv" "_law_inv" (defArgs st_law_inv) (defBody st_law_inv) (defScope st_law_inv) .none kV23 dc23 pm23 an23 cd23 ct23), sl23⟩) (c23 : PySem.W.codeIn K cd23 "_law_inv" = true) (k23 : PySem.W.keepIn K (.ref f23) = true)
    {f24 : Addr} {od24 an24 : Option Addr} {sl24 : Array (Option Value)} {oc24 kV24 dc24 pm24 cd24 ct24 : Value}
    (a24 : PySem.W.nsIn K mainGlobals "_law_number" = some (some (.ref f24))) (l24 : K.lookup f24 = some ⟨oc24, od24, .func (PySem.W.fnOf "_law_number" "_law_number" (defArgs st_law_number) (defBody st_law_number) (defScope st_law_number) .none kV24 dc24 pm24 an24 cd24 ct24), sl24⟩) (c24 : PySem.W.codeIn K cd24 "_law_number" = true) (k24 : PySem.W.keepIn K (.ref f24) = true)
    {f25 : Addr} {od25 an25 : Option Addr} {sl25 : Array (Option Value)} {oc25 kV25 dc25 pm25 cd25 ct25 : Value}
    (a25 : PySem.W.nsIn K mainGlobals "_law_is_frac" = some (some (.ref f25))) (l25 : K.lookup f25 = some ⟨oc25, od25, .func (PySem.W.fnOf "_law_is_frac" "_law_is_frac" (defArgs st_law_is_frac) (defBody st_law_is_frac) (defScope st_law_is_frac) .none kV25 dc25 pm25 an25 cd25 ct25), sl25⟩) (c25 : PySem.W.codeIn K cd25 "_law_is_frac" = true) (k25 : PySem.W.keepIn K (.ref f25) = true)
    {f26 : Addr} {od26 an26 : Option Addr} {sl26 : Array (Option Value)} {oc26 kV26 dc26 pm26 cd26 ct26 : Value}
    (a26 : PySem.W.nsIn K mainGlobals "_law_mul" = some (some (.ref f26))) (l26 : K.lookup f26 = some ⟨oc26, od26, .func (PySem.W.fnOf "_law_mul" "_law_mul" (defArgs st_law_mul) (defBody st_law_mul) (defScope st_law_mul) .none kV26 dc26 pm26 an26 cd26 ct26), sl26⟩) (c26 : PySem.W.codeIn K cd26 "_law_mul" = true) (k26 : PySem.W.keepIn K (.ref f26) = true)
    {f27 : Addr} {od27 an27 : Option Addr} {sl27 : Array (Option Value)} {oc27 kV27 dc27 pm27 cd27 ct27 : Value}
    (a27 : PySem.W.nsIn K mainGlobals "_law_neg" = some (some (.ref f27))) (l27 : K.lookup f27 = some ⟨oc27, od27, .func (PySem.W.fnOf "_law_neg" "_law_neg" (defArgs st_law_neg) (defBody st_law_neg) (defScope st_law_neg) .none kV27 dc27 pm27 an27 cd27 ct27), sl27⟩) (c27 : PySem.W.codeIn K cd27 "_law_neg" = true) (k27 : PySem.W.keepIn K (.ref f27) = true)
    {f28 : Addr} {od28 an28 : Option Addr} {sl28 : Array (Option Value)} {oc28 kV28 dc28 pm28 cd28 ct28 : Value}
    (a28 : PySem.W.nsIn K mainGlobals "_law_of" = some (some (.ref f28))) (l28 : K.lookup f28 = some ⟨oc28, od28, .func (PySem.W.fnOf "_law_of" "_law_of" (defArgs st_law_of) (defBody st_law_of) (defScope st_law_of) .none kV28 dc28 pm28 an28 cd28 ct28), sl28⟩) (c28 : PySem.W.codeIn K cd28 "_law_of" = true) (k28 : PySem.W.keepIn K (.ref f28) = true)
    {f29 : Addr} {od29 an29 : Option Addr} {sl29 : Array (Option Value)} {oc29 kV29 dc29 pm29 cd29 ct29 : Value}
    (a29 : PySem.W.nsIn K mainGlobals "_law_pow" = some (some (.ref f29))) (l29 : K.lookup f29 = some ⟨oc29, od29, .func (PySem.W.fnOf "_law_pow" "_law_pow" (defArgs st_law_pow) (defBody st_law_pow) (defScope st_law_pow) .none kV29 dc29 pm29 an29 cd29 ct29), sl29⟩) (c29 : PySem.W.codeIn K cd29 "_law_pow" = true) (k29 : PySem.W.keepIn K (.ref f29) = true)
    {f30 : Addr} {od30 an30 : Option Addr} {sl30 : Array (Option Value)} {oc30 kV30 dc30 pm30 cd30 ct30 : Value}
    (a30 : PySem.W.nsIn K mainGlobals "_law_thing" = some (some (.ref f30))) (l30 : K.lookup f30 = some ⟨oc30, od30, .func (PySem.W.fnOf "_law_thing" "_law_thing" (defArgs st_law_thing) (defBody st_law_thing) (defScope st_law_thing) .none kV30 dc30 pm30 an30 cd30 ct30), sl30⟩) (c30 : PySem.W.codeIn K cd30 "_law_thing" = true) (k30 : PySem.W.keepIn K (.ref f30) = true)
    {f31 : Addr} {od31 an31 : Option Addr} {sl31 : Array (Option Value)} {oc31 kV31 dc31 pm31 cd31 ct31 : Value}
    (a31 : PySem.W.nsIn K mainGlobals "_law_right" = some (some (.ref f31))) (l31 : K.lookup f31 = some ⟨oc31, od31, .func (PySem.W.fnOf "_law_right" "_law_right" (defArgs st_law_right) (defBody st_law_right) (defScope st_law_right) .none kV31 dc31 pm31 an31 cd31 ct31), sl31⟩) (c31 : PySem.W.codeIn K cd31 "_law_right" = true) (k31 : PySem.W.keepIn K (.ref f31) = true)
    {f32 : Addr} {od32 an32 : Option Addr} {sl32 : Array (Option Value)} {oc32 kV32 dc32 pm32 cd32 ct32 : Value}
    (a32 : PySem.W.nsIn K mainGlobals "law" = some (some (.ref f32))) (l32 : K.lookup f32 = some ⟨oc32, od32, .func (PySem.W.fnOf "law" "law" (defArgs st_law) (defBody st_law) (defScope st_law) .none kV32 dc32 pm32 an32 cd32 ct32), sl32⟩) (c32 : PySem.W.codeIn K cd32 "law" = true) (k32 : PySem.W.keepIn K (.ref f32) = true)
    (z_ValueError : PySem.W.nsIn K mainGlobals "ValueError" = some none)
    (z_abs : PySem.W.nsIn K mainGlobals "abs" = some none)
    (z_all : PySem.W.nsIn K mainGlobals "all" = some none)
    (z_bool : PySem.W.nsIn K mainGlobals "bool" = some none)
    (z_enumerate : PySem.W.nsIn K mainGlobals "enumerate" = some none)
    (z_int : PySem.W.nsIn K mainGlobals "int" = some none)
    (z_isinstance : PySem.W.nsIn K mainGlobals "isinstance" = some none)
    (z_len : PySem.W.nsIn K mainGlobals "len" = some none)
    (z_list : PySem.W.nsIn K mainGlobals "list" = some none)
    (z_range : PySem.W.nsIn K mainGlobals "range" = some none)
    (z_str : PySem.W.nsIn K mainGlobals "str" = some none)
    (z_tuple : PySem.W.nsIn K mainGlobals "tuple" = some none)
    (z_zip : PySem.W.nsIn K mainGlobals "zip" = some none)
    (i_gcd : PySem.W.nsIn K mainGlobals "gcd" = some (some (.builtin "math.gcd")))
    {C_Unfit : Addr} (x1_Unfit : PySem.W.nsIn K mainGlobals "Unfit" = some (some (.ref C_Unfit))) (x2_Unfit : PySem.W.excIn K C_Unfit [.type "ValueError", .type "Exception", .type "BaseException", .type "object"] "ValueError.__new__" = true) (x3_Unfit : PySem.W.keepIn K (.ref C_Unfit) = true) (x4_Unfit : PySem.W.subIn K (.ref C_Unfit) (.type "BaseException") = some true) (x5_Unfit : PySem.W.typeIn K (.ref C_Unfit) = some (.type "type"))
    (x7_Unfit : PySem.W.subIn K (.ref C_Unfit) (.ref C_Unfit) = some true) (x8_Unfit : PySem.W.findIn K (.ref C_Unfit) "__getattribute__" = some (some (.builtin "BaseException.__getattribute__"))) (x9_Unfit : PySem.W.findIn K (.ref C_Unfit) "__getattr__" = some none) (xa_Unfit : PySem.W.hasDictIn K C_Unfit = true)
    (xb_Unfit : PySem.W.findIn K (.ref C_Unfit) "__class__" = some (some (.builtin "object.__class__"))) (xc_Unfit : PySem.W.specialIn K (.builtin "object.__class__") "__get__" = some (some (.builtin "getset_descriptor.__get__"))) (xd_Unfit : PySem.W.takesIn K (.builtin "object.__class__") = some true) (xe_Unfit : PySem.W.mroIn K C_Unfit (.type "object") = some true)
    (kt_Unfit_ValueError : PySem.W.subIn K (.ref C_Unfit) (.type "ValueError") = some true)
    : ∃ fd : FuncData, (∀ (s : Shared) (v : Value), BindsTo s fd ⟨[v], []⟩ [("script", v)]) ∧ ∀ base : Heap, K.In base → base.Ns mainGlobals mg → FnOk P wd K mg base (L2.CX P wd) 43 fa fd ["script"] (spLaw K f_law) := by
  have e := hfa.symm.trans (PySem.W.mg_of X G a32)
  cases e
  have T : Tx ⟨K, (fun _ => none), fun n => if n = 0 then some C_Unfit else none⟩ mg := ⟨PySem.W.mg_none_of X G z_ValueError, PySem.W.mg_none_of X G z_abs, PySem.W.mg_none_of X G z_all, PySem.W.mg_none_of X G z_bool, PySem.W.mg_none_of X G z_enumerate, PySem.W.mg_none_of X G z_int, PySem.W.mg_none_of X G z_isinstance, PySem.W.mg_none_of X G z_len, PySem.W.mg_none_of X G z_list, PySem.W.mg_none_of X G z_range, PySem.W.mg_none_of X G z_str, PySem.W.mg_none_of X G z_tuple, PySem.W.mg_none_of X G z_zip, PySem.W.mg_of X G i_gcd, (fun C hC => by cases (Option.some.inj hC); exact kit_sub (by decide +kernel) kt_Unfit_ValueError)⟩
  have E_Unfit : (fun n => if n = 0 then some C_Unfit else none : Nat → Option Addr) 0 = some C_Unfit ∧ Err0 K mg "Unfit" C_Unfit [.type "ValueError", .type "Exception", .type "BaseException", .type "object"] "ValueError.__new__" ∧ ErrT K C_Unfit := ⟨rfl, ⟨PySem.W.mg_of X G x1_Unfit, x2_Unfit, x3_Unfit, x4_Unfit, x5_Unfit⟩, ⟨PySem.W.exm_ref x4_Unfit xa_Unfit x5_Unfit x7_Unfit, ⟨x8_Unfit, x9_Unfit, x4_Unfit, xa_Unfit, xb_Unfit, xc_Unfit, xd_Unfit, xe_Unfit⟩⟩⟩
  refine ⟨PySem.W.fnOf "law" "law" (defArgs st_law) (defBody st_law) (defScope st_law) .none kV32 dc32 pm32 an32 cd32 ct32, fun s v => .of_eq rfl, fun base hb1 hb2 => ?_⟩
  obtain ⟨m0, F0⟩ := fun_at (st := st_law_box) X G a0 l0 c0 k0
  obtain ⟨m1, F1⟩ := fun_at (st := st_lowest) X G a1 l1 c1 k1
  obtain ⟨m2, F2⟩ := fun_at (st := st_fraction) X G a2 l2 c2 k2
  obtain ⟨m3, F3⟩ := fun_at (st := st_over) X G a3 l3 c3 k3
  obtain ⟨m4, F4⟩ := fun_at (st := st_number_power) X G a4 l4 c4 k4
  obtain ⟨m5, F5⟩ := fun_at (st := st_power_of) X G a5 l5 c5 k5
  obtain ⟨m6, F6⟩ := fun_at (st := st_law_heard) X G a6 l6 c6 k6
  obtain ⟨m7, F7⟩ := fun_at (st := st_law_same) X G a7 l7 c7 k7
  obtain ⟨m8, F8⟩ := fun_at (st := st_is_number) X G a8 l8 c8 k8
  obtain ⟨m9, F9⟩ := fun_at (st := st_is_tuple) X G a9 l9 c9 k9
  obtain ⟨m10, F10⟩ := fun_at (st := st_is_fraction) X G a10 l10 c10 k10
  obtain ⟨m11, F11⟩ := fun_at (st := st_is_less) X G a11 l11 c11 k11
  obtain ⟨m12, F12⟩ := fun_at (st := st_minus) X G a12 l12 c12 k12
  obtain ⟨m13, F13⟩ := fun_at (st := st_plus) X G a13 l13 c13 k13
  obtain ⟨m14, F14⟩ := fun_at (st := st_sign_of) X G a14 l14 c14 k14
  obtain ⟨m15, F15⟩ := fun_at (st := st_times) X G a15 l15 c15 k15
  obtain ⟨m16, F16⟩ := fun_at (st := st_whole) X G a16 l16 c16 k16
  obtain ⟨m17, F17⟩ := fun_at (st := st_law_by_hand_right) X G a17 l17 c17 k17
  obtain ⟨m18, F18⟩ := fun_at (st := st_law_cells) X G a18 l18 c18 k18
  obtain ⟨m19, F19⟩ := fun_at (st := st_law_low) X G a19 l19 c19 k19
  obtain ⟨m20, F20⟩ := fun_at (st := st_law_add) X G a20 l20 c20 k20
  obtain ⟨m21, F21⟩ := fun_at (st := st_law_take) X G a21 l21 c21 k21
  obtain ⟨m22, F22⟩ := fun_at (st := st_law_frac) X G a22 l22 c22 k22
  obtain ⟨m23, F23⟩ := fun_at (st := st_law_inv) X G a23 l23 c23 k23
  obtain ⟨m24, F24⟩ := fun_at (st := st_law_number) X G a24 l24 c24 k24
  obtain ⟨m25, F25⟩ := fun_at (st := st_law_is_frac) X G a25 l25 c25 k25
  obtain ⟨m26, F26⟩ := fun_at (st := st_law_mul) X G a26 l26 c26 k26
  obtain ⟨m27, F27⟩ := fun_at (st := st_law_neg) X G a27 l27 c27 k27
  obtain ⟨m28, F28⟩ := fun_at (st := st_law_of) X G a28 l28 c28 k28
  obtain ⟨m29, F29⟩ := fun_at (st := st_law_pow) X G a29 l29 c29 k29
  obtain ⟨m30, F30⟩ := fun_at (st := st_law_thing) X G a30 l30 c30 k30
  obtain ⟨m31, F31⟩ := fun_at (st := st_law_right) X G a31 l31 c31 k31
  obtain ⟨m32, F32⟩ := fun_at (st := st_law) X G a32 l32 c32 k32
  have G__law_box := ok__law_box (P := P) (wd := wd) (base := base) T m0 F0
  have G__lowest := ok__lowest (P := P) (wd := wd) (base := base) T m1 F1
  have G_fraction := ok_fraction (P := P) (wd := wd) (base := base) T m2 F2 G__lowest E_Unfit
  have G_over := ok_over (P := P) (wd := wd) (base := base) T m3 F3 G_fraction
  have G_number_power := ok_number_power (P := P) (wd := wd) (base := base) T m4 F4
  have G_power_of := ok_power_of (P := P) (wd := wd) (base := base) T m5 F5 G_number_power G_fraction
  have G__law_heard := ok__law_heard (P := P) (wd := wd) (base := base) T m6 F6 G_fraction G_over G_power_of E_Unfit
  have G__law_same := ok__law_same (P := P) (wd := wd) (base := base) T m7 F7 40
  have G_is_number := ok_is_number (P := P) (wd := wd) (base := base) T m8 F8
  have G_is_tuple := ok_is_tuple (P := P) (wd := wd) (base := base) T m9 F9
  have G_is_fraction := ok_is_fraction (P := P) (wd := wd) (base := base) T m10 F10 G_is_tuple G_is_number
  have G_is_less := ok_is_less (P := P) (wd := wd) (base := base) T m11 F11
  have G_minus := ok_minus (P := P) (wd := wd) (base := base) T m12 F12 G__lowest
  have G_plus := ok_plus (P := P) (wd := wd) (base := base) T m13 F13 G__lowest
  have G_sign_of := ok_sign_of (P := P) (wd := wd) (base := base) T m14 F14
  have G_times := ok_times (P := P) (wd := wd) (base := base) T m15 F15 G__lowest
  have G_whole := ok_whole (P := P) (wd := wd) (base := base) T m16 F16
  have G__law_by_hand_right := ok__law_by_hand_right (P := P) (wd := wd) (base := base) T m17 F17 G_fraction G_whole G_plus G_minus G_times G_over G_power_of G_is_less G_sign_of G_is_fraction G__law_heard G__law_same
  have G__law_cells := ok__law_cells (P := P) (wd := wd) (base := base) T m18 F18
  have G__law_low := ok__law_low (P := P) (wd := wd) (base := base) T m19 F19
  have G__law_add := ok__law_add (P := P) (wd := wd) (base := base) T m20 F20 G__law_low
  have G__law_take := ok__law_take (P := P) (wd := wd) (base := base) T m21 F21
  have G__law_frac := ok__law_frac (P := P) (wd := wd) (base := base) T m22 F22 G__law_low G__law_take
  have G__law_inv := ok__law_inv (P := P) (wd := wd) (base := base) T m23 F23 G__law_low
  have G__law_number := ok__law_number (P := P) (wd := wd) (base := base) T m24 F24
  have G__law_is_frac := ok__law_is_frac (P := P) (wd := wd) (base := base) T m25 F25 G__law_number G__law_low
  have G__law_mul := ok__law_mul (P := P) (wd := wd) (base := base) T m26 F26 G__law_low
  have G__law_neg := ok__law_neg (P := P) (wd := wd) (base := base) T m27 F27
  have G__law_of := ok__law_of (P := P) (wd := wd) (base := base) T m28 F28 G__law_take
  have G__law_pow := ok__law_pow (P := P) (wd := wd) (base := base) T m29 F29
  have G__law_thing := ok__law_thing (P := P) (wd := wd) (base := base) T m30 F30 G__law_take G__law_of G__law_frac
  have G__law_right := ok__law_right (P := P) (wd := wd) (base := base) T m31 F31 G__law_take G__law_frac G__law_of G__law_neg G_plus G_minus G_times G_is_less G_sign_of G_whole G__law_add G__law_mul G__law_heard G__law_low G__law_inv G__law_pow G__law_thing G_is_fraction G__law_is_frac G__law_same
  have G_law := ok_law (P := P) (wd := wd) (base := base) T m32 F32 G__law_by_hand_right G__law_cells G__law_right G__law_box
  exact G_law.ok.imp (sp_law (w := ⟨K, (fun _ => none), fun n => if n = 0 then some C_Unfit else none⟩))
end G
open PySem PySem.W PyProof.Rows
set_option maxHeartbeats 0 in
theorem PySem.Challenge.cw_loopsbeside_k07_fractions_holds : PySem.Challenge.rw_loopsbeside_k07_fractions.Holds := by
  w_on; o_law; k_head; (case hw => w_witness2)
  k_fill
  refine L2.walk_ofB (l := PySem.Challenge.rw_loopsbeside_k07_fractions) (n := 63) (k := 43) (x := "script") (CX := fun w => L2.CX PySem.Challenge.rw_loopsbeside_k07_fractions.prog w) (sp := fun w => Lb.spLaw _ G.f_law) rfl (by decide) rfl ⟨rfl, by decide, by decide⟩ (fun w h Y => PySem.W.kIn_of Y) ?F (fun _ _ a ns hl hb hO hS => ⟨a, ns, rfl, Lb.sqF_of hO hS, G.main_law ns hl hb, fun _ => rfl⟩) (fun _ _ _ _ _ h => Lb.cx_false h)
  case F =>
    intro w mg fa h KX GG hmg
    refine' G.all_mk KX GG hmg ?a0 ?l0 ?c0 ?k0 ?a1 ?l1 ?c1 ?k1 ?a2 ?l2 ?c2 ?k2 ?a3 ?l3 ?c3 ?k3 ?a4 ?l4 ?c4 ?k4 ?a5 ?l5 ?c5 ?k5 ?a6 ?l6 ?c6 ?k6 ?a7 ?l7 ?c7 ?k7 ?a8 ?l8 ?c8 ?k8 ?a9 ?l9 ?c9 ?k9 ?a10 ?l10 ?c10 ?k10 ?a11 ?l11 ?c11 ?k11 ?a12 ?l12 ?c12 ?k12 ?a13 ?l13 ?c13 ?k13 ?a14 ?l14 ?c14 ?k14 ?a15 ?l15 ?c15 ?k15 ?a16 ?l16 ?c16 ?k16 ?a17 ?l17 ?c17 ?k17 ?a18 ?l18 ?c18 ?k18 ?a19 ?l19 ?c19 ?k19 ?a20 ?l20 ?c20 ?k20 ?a21 ?l21 ?c21 ?k21 ?a22 ?l22 ?c22 ?k22 ?a23 ?l23 ?c23 ?k23 ?a24 ?l24 ?c24 ?k24 ?a25 ?l25 ?c25 ?k25 ?a26 ?l26 ?c26 ?k26 ?a27 ?l27 ?c27 ?k27 ?a28 ?l28 ?c28 ?k28 ?a29 ?l29 ?c29 ?k29 ?a30 ?l30 ?c30 ?k30 ?a31 ?l31 ?c31 ?k31 ?a32 ?l32 ?c32 ?k32 ?z_ValueError ?z_abs ?z_all ?z_bool ?z_enumerate ?z_int ?z_isinstance ?z_len ?z_list ?z_range ?z_str ?z_tuple ?z_zip ?i_gcd ?x1_Unfit ?x2_Unfit ?x3_Unfit ?x4_Unfit ?x5_Unfit ?x7_Unfit ?x8_Unfit ?x9_Unfit ?xa_Unfit ?xb_Unfit ?xc_Unfit ?xd_Unfit ?xe_Unfit ?kt_Unfit_ValueError
    (case a0 => k_is); (case l0 => k_is); (case c0 => k_is); (case k0 => k_is); (case a1 => k_is); (case l1 => k_is); (case c1 => k_is); (case k1 => k_is)
    (case a2 => k_is); (case l2 => k_is); (case c2 => k_is); (case k2 => k_is); (case a3 => k_is); (case l3 => k_is); (case c3 => k_is); (case k3 => k_is)
    (case a4 => k_is); (case l4 => k_is); (case c4 => k_is); (case k4 => k_is); (case a5 => k_is); (case l5 => k_is); (case c5 => k_is); (case k5 => k_is)
    (case a6 => k_is); (case l6 => k_is); (case c6 => k_is); (case k6 => k_is); (case a7 => k_is); (case l7 => k_is); (case c7 => k_is); (case k7 => k_is)
    (case a8 => k_is); (case l8 => k_is); (case c8 => k_is); (case k8 => k_is); (case a9 => k_is); (case l9 => k_is); (case c9 => k_is); (case k9 => k_is)
    (case a10 => k_is); (case l10 => k_is); (case c10 => k_is); (case k10 => k_is); (case a11 => k_is); (case l11 => k_is); (case c11 => k_is); (case k11 => k_is)
    (case a12 => k_is); (case l12 => k_is); (case c12 => k_is); (case k12 => k_is); (case a13 => k_is); (case l13 => k_is); (case c13 => k_is); (case k13 => k_is)
    (case a14 => k_is); (case l14 => k_is); (case c14 => k_is); (case k14 => k_is); (case a15 => k_is); (case l15 => k_is); (case c15 => k_is); (case k15 => k_is)
    (case a16 => k_is); (case l16 => k_is); (case c16 => k_is); (case k16 => k_is); (case a17 => k_is); (case l17 => k_is); (case c17 => k_is); (case k17 => k_is)
    (case a18 => k_is); (case l18 => k_is); (case c18 => k_is); (case k18 => k_is); (case a19 => k_is); (case l19 => k_is); (case c19 => k_is); (case k19 => k_is)
    (case a20 => k_is); (case l20 => k_is); (case c20 => k_is); (case k20 => k_is); (case a21 => k_is); (case l21 => k_is); (case c21 => k_is); (case k21 => k_is)
    (case a22 => k_is); (case l22 => k_is); (case c22 => k_is); (case k22 => k_is); (case a23 => k_is); (case l23 => k_is); (case c23 => k_is); (case k23 => k_is)
    (case a24 => k_is); (case l24 => k_is); (case c24 => k_is); (case k24 => k_is); (case a25 => k_is); (case l25 => k_is); (case c25 => k_is); (case k25 => k_is)
    (case a26 => k_is); (case l26 => k_is); (case c26 => k_is); (case k26 => k_is); (case a27 => k_is); (case l27 => k_is); (case c27 => k_is); (case k27 => k_is)
    (case a28 => k_is); (case l28 => k_is); (case c28 => k_is); (case k28 => k_is); (case a29 => k_is); (case l29 => k_is); (case c29 => k_is); (case k29 => k_is)
    (case a30 => k_is); (case l30 => k_is); (case c30 => k_is); (case k30 => k_is); (case a31 => k_is); (case l31 => k_is); (case c31 => k_is); (case k31 => k_is)
    (case a32 => k_is); (case l32 => k_is); (case c32 => k_is); (case k32 => k_is); (case z_ValueError => k_is); (case z_abs => k_is); (case z_all => k_is); (case z_bool => k_is)
    (case z_enumerate => k_is); (case z_int => k_is); (case z_isinstance => k_is); (case z_len => k_is); (case z_list => k_is); (case z_range => k_is); (case z_str => k_is); (case z_tuple => k_is)
    (case z_zip => k_is); (case i_gcd => k_is); (case x1_Unfit => k_is); (case x2_Unfit => k_exc); (case x3_Unfit => k_is); (case x4_Unfit => k_is); (case x5_Unfit => k_is); (case x7_Unfit => first | rfl | k_is)
    (case x8_Unfit => k_is); (case x9_Unfit => k_is); (case xa_Unfit => k_is); (case xb_Unfit => k_is); (case xc_Unfit => k_is); (case xd_Unfit => k_is); (case xe_Unfit => k_is); (case kt_Unfit_ValueError => k_is)
