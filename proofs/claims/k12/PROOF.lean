import PyProof.Rows.All
import Wide.All
import OpenK.AllK
import Wide.FinOn
import PyProof.StrLawsRepr
import HandS.ForMost
import HandS.IsInst
import HandS.Deep
import HandS.EndBits
import HandS.Flow
import HandS.TupAny
import HandS.TupMul
import HandS.Small
import HandS.Wide
import PySem.Challenge.RW_longsheet_k12_names_known
set_option Elab.async false
set_option linter.all false
set_option maxRecDepth 100000
set_option maxHeartbeats 4000000
namespace DL
open PySem PySem.Spec L2

/-! ## runs: the need of a piece of syntax, said by the piece itself -/
def WE (X : Cx) (e : Expr) (σ : St) (H : Hp) (Q : VK) : Prop :=
  ∀ pins s, Inv X pins σ H s → wpAny (model X.prog X.w) X.A (eval e X.env) (EP X pins σ Q) X.xe s
def WT (X : Cx) (e : Expr) (σ : St) (H : Hp) (Q : Bool → Hp → Prop) : Prop :=
  ∀ pins s, Inv X pins σ H s → wpAny (model X.prog X.w) X.A (isTrue e X.env (eval e X.env)) (TP X pins σ Q) X.xe s
def WA (X : Cx) (es : List Expr) (σ : St) (H : Hp) (Q : List V → Hp → Prop) : Prop :=
  ∀ (pos : Pos) pins s, Inv X pins σ H s → wpAny (model X.prog X.w) X.A (spliced (backTo pos (starEach es X.env))) (AP X pins σ Q) X.xe s
def WS (X : Cx) (st : Stmt) (D : Ends) (σ : St) (H : Hp) : Prop :=
  ∀ pins s, Inv X pins σ H s → wpAny (model X.prog X.w) X.A (exec st X.env) (SP X pins D) X.xe s
def WB (X : Cx) (st : List Stmt) (D : Ends) (σ : St) (H : Hp) : Prop :=
  ∀ pins s, Inv X pins σ H s → wpAny (model X.prog X.w) X.A (execs st X.env) (SP X pins D) X.xe s
section
variable {X : Cx} {σ : St} {H : Hp}
theorem WE.pe (X : Cx) (e : Expr) : PE X e (WE X e) := ⟨fun pins s _ _ _ I h => h pins s I⟩
theorem WT.pt (X : Cx) (e : Expr) : PT X e (WT X e) := ⟨fun pins s _ _ _ I h => h pins s I⟩
theorem WA.pa (X : Cx) (es : List Expr) : PA X es (WA X es) := ⟨fun pos pins s _ _ _ I h => h pos pins s I⟩
theorem WS.ps (X : Cx) (st : Stmt) : PS X st (WS X st) := ⟨fun pins s _ _ _ I h => h pins s I⟩
theorem WB.pss (X : Cx) (st : List Stmt) : PSs X st (WB X st) := ⟨fun pins s _ _ _ I h => h pins s I⟩
theorem WE.of {e : Expr} {t : TE} (p : PE X e t) {Q : VK} (q : t σ H Q) : WE X e σ H Q := fun pins s I => p.run pins s σ H Q I q
theorem WT.of {e : Expr} {t : TT} (p : PT X e t) {Q : Bool → Hp → Prop} (q : t σ H Q) : WT X e σ H Q := fun pins s I => p.run pins s σ H Q I q
theorem WA.of {es : List Expr} {t : TA} (p : PA X es t) {Q : List V → Hp → Prop} (q : t σ H Q) : WA X es σ H Q := fun pos pins s I => p.run pos pins s σ H Q I q
theorem WS.of {st : Stmt} {t : TS} (p : PS X st t) {D : Ends} (q : t D σ H) : WS X st D σ H := fun pins s I => p.run pins s σ H D I q
theorem WB.of {st : List Stmt} {t : TS} (p : PSs X st t) {D : Ends} (q : t D σ H) : WB X st D σ H := fun pins s I => p.run pins s σ H D I q
end

/-! ## data that stands in the abstract heap -/
def keyD : Key → PyData
  | .inl i => .int i
  | .inr x => .str x
mutual
inductive Rp (K : PySem.W.Frag) (H : Hp) : V → PyData → Prop
  | non : Rp K H .non .none
  | bl (b : Bool) : Rp K H (.bl b) (.bool b)
  | int (i : Int) : Rp K H (.int i) (.int i)
  | str (x : Str) : Rp K H (.str x) (.str x)
  | lst {a : Addr} {xs : List V} {ds : List PyData} : H a = some (.lst xs) → RpA K H xs ds → Rp K H (.ref a) (.list ds)
  | tup {a : Addr} {xs : List V} {ds : List PyData} : SqT K H a xs → RpA K H xs ds → Rp K H (.ref a) (.tuple ds)
  | dic {a : Addr} {kvs : List (Key × V)} {ds : List (PyData × PyData)} : H a = some (.dK kvs) → RpK K H kvs ds → Rp K H (.ref a) (.dict ds)
inductive RpA (K : PySem.W.Frag) (H : Hp) : List V → List PyData → Prop
  | nil : RpA K H [] []
  | cons {v : V} {vs : List V} {d : PyData} {ds : List PyData} : Rp K H v d → RpA K H vs ds → RpA K H (v :: vs) (d :: ds)
inductive RpK (K : PySem.W.Frag) (H : Hp) : List (Key × V) → List (PyData × PyData) → Prop
  | nil : RpK K H [] []
  | cons {k : Key} {v : V} {r : List (Key × V)} {d : PyData} {ds : List (PyData × PyData)} : Rp K H v d → RpK K H r ds → RpK K H ((k, v) :: r) ((keyD k, d) :: ds)
end
theorem seqT {K : PySem.W.Frag} {H H' : Hp} (e : Same H H') {a : Addr} {xs : List V} (h : SqT K H a xs) : SqT K H' a xs := by
  rcases h with (h | ⟨o, h⟩) | h
  · exact .inl (.inl (e _ _ h))
  · exact .inl (.inr ⟨o, e _ _ h⟩)
  · exact .inr h
mutual
theorem Rp.mono {K : PySem.W.Frag} {H H' : Hp} (e : Same H H') : ∀ {v : V} {d : PyData}, Rp K H v d → Rp K H' v d
  | _, _, .non => .non
  | _, _, .bl b => .bl b
  | _, _, .int i => .int i
  | _, _, .str x => .str x
  | _, _, .lst h r => .lst (e _ _ h) (RpA.mono e r)
  | _, _, .tup h r => .tup (seqT e h) (RpA.mono e r)
  | _, _, .dic h r => .dic (e _ _ h) (RpK.mono e r)
theorem RpA.mono {K : PySem.W.Frag} {H H' : Hp} (e : Same H H') : ∀ {v : List V} {d : List PyData}, RpA K H v d → RpA K H' v d
  | _, _, .nil => .nil
  | _, _, .cons h r => .cons (Rp.mono e h) (RpA.mono e r)
theorem RpK.mono {K : PySem.W.Frag} {H H' : Hp} (e : Same H H') : ∀ {v : List (Key × V)} {d : List (PyData × PyData)}, RpK K H v d → RpK K H' v d
  | _, _, .nil => .nil
  | _, _, .cons h r => .cons (Rp.mono e h) (RpK.mono e r)
end
section
variable {K : PySem.W.Frag} {H : Hp}
theorem RpA.len : ∀ {vs : List V} {ds : List PyData}, RpA K H vs ds → vs.length = ds.length
  | _, _, .nil => rfl
  | _, _, .cons _ r => by simp [RpA.len r]
theorem RpA.get : ∀ {vs : List V} {ds : List PyData} {i : Nat} {d : PyData}, RpA K H vs ds → ds[i]? = some d → ∃ v, vs[i]? = some v ∧ Rp K H v d
  | _, _, _, _, .nil, e => by simp at e
  | _, _, 0, _, .cons h _, e => by simp at e; subst e; exact ⟨_, rfl, h⟩
  | _, _, i + 1, d, .cons _ r, e => by
    obtain ⟨v, h1, h2⟩ := RpA.get (i := i) (d := d) r (by simpa using e)
    exact ⟨v, by simpa using h1, h2⟩
theorem RpA.get' : ∀ {vs : List V} {ds : List PyData} {i : Nat} {v : V}, RpA K H vs ds → vs[i]? = some v → ∃ d, ds[i]? = some d ∧ Rp K H v d
  | _, _, _, _, .nil, e => by simp at e
  | _, _, 0, _, .cons h _, e => by simp at e; subst e; exact ⟨_, rfl, h⟩
  | _, _, i + 1, d, .cons _ r, e => by
    obtain ⟨v, h1, h2⟩ := RpA.get' (i := i) (v := d) r (by simpa using e)
    exact ⟨v, by simpa using h1, h2⟩
theorem RpA.append : ∀ {a b : List V} {c d : List PyData}, RpA K H a c → RpA K H b d → RpA K H (a ++ b) (c ++ d)
  | _, _, _, _, .nil, s => s
  | _, _, _, _, .cons h r, s => .cons h (RpA.append r s)
theorem RpA.take : ∀ {a : List V} {c : List PyData} (n : Nat), RpA K H a c → RpA K H (a.take n) (c.take n)
  | _, _, 0, _ => .nil
  | _, _, _ + 1, .nil => .nil
  | _, _, n + 1, .cons h r => .cons h (RpA.take n r)
theorem RpA.drop : ∀ {a : List V} {c : List PyData} (n : Nat), RpA K H a c → RpA K H (a.drop n) (c.drop n)
  | _, _, 0, r => r
  | _, _, _ + 1, .nil => .nil
  | _, _, n + 1, .cons _ r => RpA.drop n r
theorem RpA.set {v : V} {d : PyData} (h : Rp K H v d) : ∀ {a : List V} {c : List PyData} (n : Nat), RpA K H a c → RpA K H (a.set n v) (c.set n d)
  | _, _, _, .nil => .nil
  | _, _, 0, .cons _ r => .cons h r
  | _, _, n + 1, .cons q r => .cons q (RpA.set h n r)
theorem RpA.ints : ∀ (ns : List Int), RpA K H (ns.map V.int) (ns.map PyData.int)
  | [] => .nil
  | n :: ns => .cons (.int n) (RpA.ints ns)
/-- data without dicts, for the library's == -/
theorem dp_of : ∀ {v : V} {d : PyData}, d.canLay0 = true → Rp K H v d → Dp K H v d := by
  intro v d
  have go : ∀ n, (∀ d : PyData, sizeOf d < n → ∀ v, d.canLay0 = true → Rp K H v d → Dp K H v d) ∧ (∀ ds : List PyData, sizeOf ds < n → ∀ vs, PyData.canLayAll0 ds = true → RpA K H vs ds → DpAll K H vs ds) := by
    intro n
    induction n with
    | zero => exact ⟨fun d h => by omega, fun d h => by omega⟩
    | succ n ih =>
      refine ⟨fun d h v hc r => ?_, fun ds h vs hc r => ?_⟩
      · cases r with
        | non => exact .non
        | bl b => exact .bl b
        | int i => exact .int i
        | str x => exact .str x
        | lst hs ha => exact .lst (SqL.of hs) (ih.2 _ (by simp at h; omega) _ (by simpa [PyData.canLay0] using hc) ha)
        | tup hs ha => exact .tup hs (ih.2 _ (by simp at h; omega) _ (by simpa [PyData.canLay0] using hc) ha)
        | dic _ _ => exact absurd hc (by simp [PyData.canLay0])
      · cases r with
        | nil => exact .nil
        | @cons v1 vs1 d1 ds1 h1 h2 =>
          have hc' : PyData.canLay0 d1 = true ∧ PyData.canLayAll0 ds1 = true := by simpa [PyData.canLayAll0] using hc
          exact .cons (ih.1 _ (by simp at h; omega) _ hc'.1 h1) (ih.2 _ (by simp at h; omega) _ hc'.2 h2)
  exact fun hc r => (go _).1 d (Nat.lt_succ_self _) v hc r
end

/-! ## what is owned: objects that the code at hand may change; all else is data -/
def hid (O : List Addr) (H : Hp) : Hp := fun a => if a ∈ O then none else H a
theorem hid_in {O : List Addr} {H : Hp} {a : Addr} (h : a ∈ O) : hid O H a = none := if_pos h
theorem hid_out {O : List Addr} {H : Hp} {a : Addr} (h : a ∉ O) : hid O H a = H a := if_neg h
theorem hid_some {O : List Addr} {H : Hp} {a : Addr} {o : HO} (h : hid O H a = some o) : a ∉ O ∧ H a = some o := by
  by_cases q : a ∈ O
  · rw [hid_in q] at h; cases h
  · rw [hid_out q] at h; exact ⟨q, h⟩
structure OwnP where
  ok : PySem.W.Frag → Hp → HO → Prop
  mono : ∀ K H H' o, Same H H' → ok K H o → ok K H' o
abbrev Ow := List (Addr × OwnP)
abbrev dom (ω : Ow) : List Addr := ω.map (·.1)
inductive Cell where
  | raw (v : V)
  | dat (d : PyData)
  | scr (ns : List Int)
abbrev Env := List (Option Cell)
def CellOk (K : PySem.W.Frag) (O : List Addr) (H : Hp) (v : V) : Cell → Prop
  | .raw w => v = w
  | .dat d => Rp K (hid O H) v d
  | .scr ns => ∃ a, v = .ref a ∧ SqL K (hid O H) a (ns.map V.int)
abbrev Kp (O : List Addr) (H : Hp) (O' : List Addr) (H' : Hp) : Prop := Same (hid O H) (hid O' H')
theorem CellOk.mono {K : PySem.W.Frag} {O O' : List Addr} {H H' : Hp} (e : Kp O H O' H') {v : V} : ∀ {c : Cell}, CellOk K O H v c → CellOk K O' H' v c
  | .raw _, h => h
  | .dat _, h => Rp.mono e h
  | .scr _, ⟨a, h1, h2⟩ => ⟨a, h1, Same.seq e h2⟩
def EnvOk (K : PySem.W.Frag) (O : List Addr) (H : Hp) : St → Env → Prop
  | [], [] => True
  | sv :: σ, c :: δ => (∀ x, c = some x → ∃ v, sv = some v ∧ CellOk K O H v x) ∧ EnvOk K O H σ δ
  | _, _ => False
section
variable {K : PySem.W.Frag} {O O' : List Addr} {H H' : Hp}
theorem EnvOk.mono (e : Kp O H O' H') : ∀ {σ : St} {δ : Env}, EnvOk K O H σ δ → EnvOk K O' H' σ δ
  | [], [], _ => trivial
  | _ :: _, _ :: _, ⟨h, r⟩ => ⟨fun x q => let ⟨v, h1, h2⟩ := h x q; ⟨v, h1, h2.mono e⟩, EnvOk.mono e r⟩
  | [], _ :: _, h => h.elim
  | _ :: _, [], h => h.elim
theorem EnvOk.get : ∀ {σ : St} {δ : Env} {i : Nat} {c : Cell}, EnvOk K O H σ δ → δ[i]? = some (some c) → ∃ v, σ[i]? = some (some v) ∧ CellOk K O H v c
  | [], [], _, _, _, q => by simp at q
  | sv :: _, c :: _, 0, x, ⟨h, _⟩, q => by
    obtain ⟨v, h1, h2⟩ := h x (by simpa using q)
    exact ⟨v, by simp [h1], h2⟩
  | _ :: _, _ :: _, i + 1, x, ⟨_, r⟩, q => by
    obtain ⟨v, h1, h2⟩ := EnvOk.get (i := i) (c := x) r (by simpa using q)
    exact ⟨v, by simpa using h1, h2⟩
  | [], _ :: _, _, _, h, _ => h.elim
  | _ :: _, [], _, _, h, _ => h.elim
theorem EnvOk.set {v : V} {c : Cell} (hc : CellOk K O H v c) : ∀ {σ : St} {δ : Env} (i : Nat), EnvOk K O H σ δ → EnvOk K O H (σ.set i (some v)) (δ.set i (some c))
  | [], [], _, _ => trivial
  | _ :: _, _ :: _, 0, ⟨_, r⟩ => ⟨fun x q => by cases q; exact ⟨v, rfl, hc⟩, r⟩
  | _ :: _, _ :: _, i + 1, ⟨h, r⟩ => ⟨h, EnvOk.set hc i r⟩
  | [], _ :: _, _, h => h.elim
  | _ :: _, [], _, h => h.elim
/-- a slot that is forgotten -/
theorem EnvOk.forget : ∀ {σ : St} {δ : Env} (i : Nat), EnvOk K O H σ δ → EnvOk K O H σ (δ.set i none)
  | [], [], _, _ => trivial
  | _ :: _, _ :: _, 0, ⟨_, r⟩ => ⟨fun x q => (nomatch q), r⟩
  | _ :: _, _ :: _, i + 1, ⟨h, r⟩ => ⟨h, EnvOk.forget i r⟩
  | [], _ :: _, _, h => h.elim
  | _ :: _, [], _, h => h.elim
theorem EnvOk.length : ∀ {σ : St} {δ : Env}, EnvOk K O H σ δ → σ.length = δ.length
  | [], [], _ => rfl
  | _ :: _, _ :: _, ⟨_, r⟩ => by simp [EnvOk.length r]
  | [], _ :: _, h => h.elim
  | _ :: _, [], h => h.elim
end
structure OwnOk (K : PySem.W.Frag) (ω : Ow) (H : Hp) : Prop where
  nd : (dom ω).Nodup
  at_ : ∀ p P, (p, P) ∈ ω → ∃ o, H p = some o ∧ P.ok K (hid (dom ω) H) o
structure StOk (K : PySem.W.Frag) (ω : Ow) (δ : Env) (σ : St) (H : Hp) : Prop where
  env : EnvOk K (dom ω) H σ δ
  own : OwnOk K ω H
section
variable {K : PySem.W.Frag} {ω : Ow} {δ : Env} {σ : St} {H : Hp} {p : Addr} {o : HO}
theorem OwnOk.notin (h : OwnOk K ω H) (hp : H p = none) : p ∉ dom ω := fun q => by
  obtain ⟨⟨a, P⟩, h1, rfl⟩ := List.mem_map.mp q
  obtain ⟨u, h2, _⟩ := h.at_ a P h1
  rw [hp] at h2; cases h2
theorem kp_new (h : OwnOk K ω H) (hp : H p = none) : Kp (dom ω) H (dom ω) (upd H p o) := fun b u q => by
  obtain ⟨h1, h2⟩ := hid_some q
  rw [hid_out h1, upd_ne (ne_of_none h2 hp)]
  exact h2
theorem OwnOk.new (h : OwnOk K ω H) (hp : H p = none) : OwnOk K ω (upd H p o) := ⟨h.nd, fun a P q => by
  obtain ⟨u, h1, h2⟩ := h.at_ a P q
  exact ⟨u, by rw [upd_ne (ne_of_none h1 hp)]; exact h1, P.mono _ _ _ _ (kp_new h hp) h2⟩⟩
theorem StOk.new (h : StOk K ω δ σ H) (hp : H p = none) : StOk K ω δ σ (upd H p o) := ⟨h.env.mono (kp_new h.own hp), h.own.new hp⟩
theorem StOk.get {i : Nat} {c : Cell} (h : StOk K ω δ σ H) (q : δ[i]? = some (some c)) : ∃ v, σ[i]? = some (some v) ∧ CellOk K (dom ω) H v c := h.env.get q
theorem Kp.refl (O : List Addr) (H : Hp) : Kp O H O H := Same.refl _
theorem Kp.trans {O O1 O2 : List Addr} {H H1 H2 : Hp} (a : Kp O H O1 H1) (b : Kp O1 H1 O2 H2) : Kp O H O2 H2 := Same.trans a b
/-- a new object is data -/
theorem new_tup {xs : List V} {ds : List PyData} (h : OwnOk K ω H) (hp : H p = none) (r : RpA K (hid (dom ω) H) xs ds) : Rp K (hid (dom ω) (upd H p (.tup xs))) (.ref p) (.tuple ds) :=
  .tup (.inl (.inl (by rw [hid_out (h.notin hp), upd_same]))) (r.mono (kp_new h hp))
theorem new_lst {xs : List V} {ds : List PyData} (h : OwnOk K ω H) (hp : H p = none) (r : RpA K (hid (dom ω) H) xs ds) : Rp K (hid (dom ω) (upd H p (.lst xs))) (.ref p) (.list ds) :=
  .lst (by rw [hid_out (h.notin hp), upd_same]) (r.mono (kp_new h hp))
theorem rd_hid {O : List Addr} {a : Addr} {u : HO} (h : Rd (hid O H) a u) : Rd H a u := by
  rcases h with h | ⟨o, h⟩
  · exact .inl (hid_some h).2
  · exact .inr ⟨o, (hid_some h).2⟩
theorem sql_hid {O : List Addr} {a : Addr} {xs : List V} (h : SqL K (hid O H) a xs) : SqL K H a xs := by
  rcases h with h | h
  · exact .inl (rd_hid h)
  · exact .inr h
theorem sqt_hid {O : List Addr} {a : Addr} {xs : List V} (h : SqT K (hid O H) a xs) : SqT K H a xs := by
  rcases h with h | h
  · exact .inl (rd_hid h)
  · exact .inr h
end
theorem hid_same {O : List Addr} {H : Hp} : Same (hid O H) H := fun _ _ q => (hid_some q).2

/-! ## the judgements over data -/
/-- e gives a cell c, behind which ω' is owned, such that Φ ω' c -/
def N (X : Cx) (ω : Ow) (δ : Env) (e : Expr) (Φ : Ow → Cell → Prop) : Prop :=
  ∀ σ H Q, StOk X.K ω δ σ H → (∀ ω' c v H', Φ ω' c → StOk X.K ω' δ σ H' → Kp (dom ω) H (dom ω') H' → CellOk X.K (dom ω') H' v c → Q v H') → WE X e σ H Q
def NT (X : Cx) (ω : Ow) (δ : Env) (e : Expr) (Φ : Ow → Bool → Prop) : Prop :=
  ∀ σ H Q, StOk X.K ω δ σ H → (∀ ω' b H', Φ ω' b → StOk X.K ω' δ σ H' → Kp (dom ω) H (dom ω') H' → Q b H') → WT X e σ H Q
inductive Cells (K : PySem.W.Frag) (O : List Addr) (H : Hp) : List V → List Cell → Prop
  | nil : Cells K O H [] []
  | cons {v : V} {c : Cell} {vs : List V} {cs : List Cell} : CellOk K O H v c → Cells K O H vs cs → Cells K O H (v :: vs) (c :: cs)
theorem Cells.mono {K : PySem.W.Frag} {O O' : List Addr} {H H' : Hp} (e : Kp O H O' H') : ∀ {vs : List V} {cs : List Cell}, Cells K O H vs cs → Cells K O' H' vs cs
  | _, _, .nil => .nil
  | _, _, .cons h r => .cons (h.mono e) (Cells.mono e r)
def NA (X : Cx) (ω : Ow) (δ : Env) (es : List Expr) (Φ : Ow → List Cell → Prop) : Prop :=
  ∀ σ H Q, StOk X.K ω δ σ H → (∀ ω' cs vs H', Φ ω' cs → StOk X.K ω' δ σ H' → Kp (dom ω) H (dom ω') H' → Cells X.K (dom ω') H' vs cs → Q vs H') → WA X es σ H Q
/-- what a block may end with -/
structure En where
  nx : Ow → Env → Prop
  rt : Ow → Cell → Prop
  bk : Ow → Env → Prop := fun _ _ => False
  ct : Ow → Env → Prop := fun _ _ => False
structure Fits (K : PySem.W.Frag) (ω : Ow) (H : Hp) (E : En) (D : Ends) : Prop where
  nx : ∀ ω' δ' σ' H', E.nx ω' δ' → StOk K ω' δ' σ' H' → Kp (dom ω) H (dom ω') H' → D.nx σ' H'
  rt : ∀ ω' c v H', E.rt ω' c → OwnOk K ω' H' → Kp (dom ω) H (dom ω') H' → CellOk K (dom ω') H' v c → D.rt v H'
  bk : ∀ ω' δ' σ' H', E.bk ω' δ' → StOk K ω' δ' σ' H' → Kp (dom ω) H (dom ω') H' → D.bk σ' H'
  ct : ∀ ω' δ' σ' H', E.ct ω' δ' → StOk K ω' δ' σ' H' → Kp (dom ω) H (dom ω') H' → D.ct σ' H'
theorem Fits.after {K : PySem.W.Frag} {ω ω1 : Ow} {H H1 : Hp} {E : En} {D : Ends} (f : Fits K ω H E D) (k : Kp (dom ω) H (dom ω1) H1) : Fits K ω1 H1 E D :=
  ⟨fun a b c d e g q => f.nx a b c d e g (k.trans q), fun a b c d e g q => f.rt a b c d e g (k.trans q), fun a b c d e g q => f.bk a b c d e g (k.trans q), fun a b c d e g q => f.ct a b c d e g (k.trans q)⟩
def S (X : Cx) (ω : Ow) (δ : Env) (st : Stmt) (E : En) : Prop := ∀ σ H D, StOk X.K ω δ σ H → Fits X.K ω H E D → WS X st D σ H
def B (X : Cx) (ω : Ow) (δ : Env) (st : List Stmt) (E : En) : Prop := ∀ σ H D, StOk X.K ω δ σ H → Fits X.K ω H E D → WB X st D σ H

section
variable {X : Cx} {ω : Ow} {δ : Env} {e a b : Expr} {es : List Expr} {Φ : Ow → Cell → Prop} {pos : Pos}
theorem N.imp {Φ' : Ow → Cell → Prop} (h : N X ω δ e Φ) (k : ∀ ω' c, Φ ω' c → Φ' ω' c) : N X ω δ e Φ' := fun σ H Q s q => h σ H Q s fun ω' c v H' f => q ω' c v H' (k _ _ f)
theorem NT.imp {Φ Φ' : Ow → Bool → Prop} (h : NT X ω δ e Φ) (k : ∀ ω' c, Φ ω' c → Φ' ω' c) : NT X ω δ e Φ' := fun σ H Q s q => h σ H Q s fun ω' c H' f => q ω' c H' (k _ _ f)
/-- an expression by the layer's own rule, where it changes nothing and gives what a cell says -/
theorem n_lift {t : TE} (p : PE X e t) (h : ∀ σ H Q, StOk X.K ω δ σ H → (∀ ω' c v H', Φ ω' c → StOk X.K ω' δ σ H' → Kp (dom ω) H (dom ω') H' → CellOk X.K (dom ω') H' v c → Q v H') → t σ H Q) : N X ω δ e Φ :=
  fun σ H Q s q => WE.of p (h σ H Q s q)
theorem n_var (i : Nat) {x : Str} {c : Cell} (h : Φ ω c) (hd : δ[i]? = some (some c) := by rfl) (hN : X.N[i]? = some x := by rfl) (hv : Vis X.env.scope x := by first | exact Or.inl rfl | exact Or.inr (Or.inl rfl) | exact Or.inr (Or.inr rfl))
    (hg : (x == ("__debug__" : Str)) = false := by decide) (hcd : (x == ("__classdict__" : Str)) = false := by decide) : N X ω δ (.Name x pos) Φ :=
  n_lift (pe_var hN hv hg hcd) fun σ H Q s q => by
    obtain ⟨v, h1, h2⟩ := s.get hd
    exact ⟨v, h1, q ω c v H h s (Kp.refl _ _) h2⟩
theorem n_int {i : Int} {j} (h : Φ ω (.dat (.int i))) : N X ω δ (.Constant (.int i) j pos) Φ := n_lift pe_int fun σ H Q s q => q ω _ _ H h s (Kp.refl _ _) (Rp.int i)
theorem n_bl {i : Bool} {j} (h : Φ ω (.dat (.bool i))) : N X ω δ (.Constant (.bool i) j pos) Φ := n_lift pe_bl fun σ H Q s q => q ω _ _ H h s (Kp.refl _ _) (Rp.bl i)
theorem n_str {i : Str} {j} (h : Φ ω (.dat (.str i))) : N X ω δ (.Constant (.str i) j pos) Φ := n_lift pe_str fun σ H Q s q => q ω _ _ H h s (Kp.refl _ _) (Rp.str i)
theorem n_non {j} (h : Φ ω (.dat .none)) : N X ω δ (.Constant .none j pos) Φ := n_lift pe_non fun σ H Q s q => q ω _ _ H h s (Kp.refl _ _) Rp.non
/-- what an operation on two values asks, over cells -/
def Op2 (X : Cx) (r : R2) (ω : Ow) (δ : Env) (c1 c2 : Cell) (Φ : Ow → Cell → Prop) : Prop :=
  ∀ x y σ H Q, StOk X.K ω δ σ H → CellOk X.K (dom ω) H x c1 → CellOk X.K (dom ω) H y c2 → (∀ ω' c v H', Φ ω' c → StOk X.K ω' δ σ H' → Kp (dom ω) H (dom ω') H' → CellOk X.K (dom ω') H' v c → Q v H') → r x y H Q
theorem n_op2 {r : R2} {e : Expr} (p : PE X e (tOp r (WE X a) (WE X b))) (h : N X ω δ a fun ω1 c1 => N X ω1 δ b fun ω2 c2 => Op2 X r ω2 δ c1 c2 Φ) : N X ω δ e Φ :=
  n_lift p fun σ H Q s q => h σ H _ s fun ω1 c1 v1 H1 f1 s1 k1 o1 => f1 σ H1 _ s1 fun ω2 c2 v2 H2 f2 s2 k2 o2 =>
    f2 v1 v2 σ H2 Q s2 (o1.mono k2) o2 fun ω3 c3 v3 H3 f3 s3 k3 o3 => q ω3 c3 v3 H3 f3 s3 (k1.trans (k2.trans k3)) o3
def Op1 (X : Cx) (r : V → Hp → VK → Prop) (ω : Ow) (δ : Env) (c1 : Cell) (Φ : Ow → Cell → Prop) : Prop :=
  ∀ x σ H Q, StOk X.K ω δ σ H → CellOk X.K (dom ω) H x c1 → (∀ ω' c v H', Φ ω' c → StOk X.K ω' δ σ H' → Kp (dom ω) H (dom ω') H' → CellOk X.K (dom ω') H' v c → Q v H') → r x H Q
theorem n_op1 {r : V → Hp → VK → Prop} {e : Expr} (p : PE X e (tUn r (WE X a))) (h : N X ω δ a fun ω1 c1 => Op1 X r ω1 δ c1 Φ) : N X ω δ e Φ :=
  n_lift p fun σ H Q s q => h σ H _ s fun ω1 c1 v1 H1 f1 s1 k1 o1 => f1 v1 σ H1 Q s1 o1 fun ω3 c3 v3 H3 f3 s3 k3 o3 => q ω3 c3 v3 H3 f3 s3 (k1.trans k3) o3
end
end DL

namespace DL
open PySem PySem.Spec L2
section
variable {X : Cx} {ω : Ow} {δ : Env} {e a b c : Expr} {rest es : List Expr} {Φ : Ow → Cell → Prop} {pos : Pos}
/-! ## tests, and, or, not -/
theorem n_ifx {ΦT : Ow → Bool → Prop} (h : NT X ω δ c fun ω1 k => if k = true then N X ω1 δ a Φ else N X ω1 δ b Φ) : N X ω δ (.IfExp c a b pos) Φ :=
  n_lift (pe_ifExp (WT.pt X c) (WE.pe X a) (WE.pe X b)) fun σ H Q s q => h σ H _ s fun ω1 k H1 f1 s1 k1 => by
    cases k with
    | true => exact f1 σ H1 Q s1 fun ω2 c v H2 f2 s2 k2 o2 => q ω2 c v H2 f2 s2 (k1.trans k2) o2
    | false => exact f1 σ H1 Q s1 fun ω2 c v H2 f2 s2 k2 o2 => q ω2 c v H2 f2 s2 (k1.trans k2) o2
def isB (ω : Ow) (Φ : Ow → Bool → Prop) (c : Cell) : Prop := ∃ k, c = .dat (.bool k) ∧ Φ ω k
theorem isB.mk {Φ : Ow → Bool → Prop} {k : Bool} (h : Φ ω k) : isB ω Φ (.dat (.bool k)) := ⟨k, rfl, h⟩
theorem bool_of {K : PySem.W.Frag} {O : List Addr} {H : Hp} {v : V} {k : Bool} (h : CellOk K O H v (.dat (.bool k))) : v = .bl k := by cases h; rfl
theorem int_of {K : PySem.W.Frag} {O : List Addr} {H : Hp} {v : V} {k : Int} (h : CellOk K O H v (.dat (.int k))) : v = .int k := by cases h; rfl
theorem str_of {K : PySem.W.Frag} {O : List Addr} {H : Hp} {v : V} {k : Str} (h : CellOk K O H v (.dat (.str k))) : v = .str k := by cases h; rfl
theorem non_of {K : PySem.W.Frag} {O : List Addr} {H : Hp} {v : V} (h : CellOk K O H v (.dat .none)) : v = .non := by cases h; rfl
/-- a value that is a bool, as a test -/
theorem nt_val {Φ : Ow → Bool → Prop} (h : N X ω δ e fun ω1 c => isB ω1 Φ c) (he : ∀ whole, isTrue e X.env whole = (do let v ← whole; standAt e.pos; holding [v] (truthy v)) := by intro _; rfl) : NT X ω δ e Φ := fun σ H Q s q =>
  WT.of (pt_val (WE.pe X e) he) (h σ H _ s fun ω1 c v H1 ⟨k, e1, f1⟩ s1 k1 o1 => by
    subst e1
    cases bool_of o1
    exact ⟨k, rfl, q ω1 k H1 f1 s1 k1⟩)
def WW (X : Cx) (e : Expr) (σ : St) (H : Hp) (Q : Bool → Hp → Prop) : Prop :=
  ∀ (whole : Sem Value) pins s, Inv X pins σ H s → wpAny (model X.prog X.w) X.A (isTrue e X.env whole) (TP X pins σ Q) X.xe s
theorem WW.pw (X : Cx) (e : Expr) : PW X e (WW X e) := ⟨fun wh pins s _ _ _ I h => h wh pins s I⟩
theorem WW.of {σ : St} {H : Hp} {t : TT} (p : PW X e t) {Q : Bool → Hp → Prop} (q : t σ H Q) : WW X e σ H Q := fun wh pins s I => p.run wh pins s σ H Q I q
def NW (X : Cx) (ω : Ow) (δ : Env) (e : Expr) (Φ : Ow → Bool → Prop) : Prop :=
  ∀ σ H Q, StOk X.K ω δ σ H → (∀ ω' b H', Φ ω' b → StOk X.K ω' δ σ H' → Kp (dom ω) H (dom ω') H' → Q b H') → WW X e σ H Q
theorem nt_w {Φ : Ow → Bool → Prop} (h : NW X ω δ e Φ) : NT X ω δ e Φ := fun σ H Q s q => WT.of (WW.pw X e).pt (h σ H Q s q)
theorem nw_and1 {Φ : Ow → Bool → Prop} (h : NT X ω δ a Φ) : NW X ω δ (.BoolOp .And [a] pos) Φ := fun σ H Q s q => WW.of (pw_and1 (WT.pt X a)) (h σ H Q s q)
theorem nw_or1 {Φ : Ow → Bool → Prop} (h : NT X ω δ a Φ) : NW X ω δ (.BoolOp .Or [a] pos) Φ := fun σ H Q s q => WW.of (pw_or1 (WT.pt X a)) (h σ H Q s q)
theorem nw_and {Φ : Ow → Bool → Prop} (h : NT X ω δ a fun ω1 k => if k = true then NW X ω1 δ (.BoolOp .And (b :: rest) pos) Φ else Φ ω1 false) : NW X ω δ (.BoolOp .And (a :: b :: rest) pos) Φ := fun σ H Q s q =>
  WW.of (pw_and (WT.pt X a) (WW.pw X _)) (h σ H _ s fun ω1 k H1 f1 s1 k1 => by
    cases k with
    | true => exact f1 σ H1 Q s1 fun ω2 c H2 f2 s2 k2 => q ω2 c H2 f2 s2 (k1.trans k2)
    | false => exact q ω1 false H1 f1 s1 k1)
theorem nw_or {Φ : Ow → Bool → Prop} (h : NT X ω δ a fun ω1 k => if k = true then Φ ω1 true else NW X ω1 δ (.BoolOp .Or (b :: rest) pos) Φ) : NW X ω δ (.BoolOp .Or (a :: b :: rest) pos) Φ := fun σ H Q s q =>
  WW.of (pw_or (WT.pt X a) (WW.pw X _)) (h σ H _ s fun ω1 k H1 f1 s1 k1 => by
    cases k with
    | false => exact f1 σ H1 Q s1 fun ω2 c H2 f2 s2 k2 => q ω2 c H2 f2 s2 (k1.trans k2)
    | true => exact q ω1 true H1 f1 s1 k1)
theorem nt_and {Φ : Ow → Bool → Prop} (h : NT X ω δ a fun ω1 k => if k = true then NT X ω1 δ b Φ else Φ ω1 false) : NT X ω δ (.BoolOp .And [a, b] pos) Φ :=
  nt_w (nw_and (h.imp fun ω1 k f => by cases k with | true => exact nw_and1 f | false => exact f))
theorem nt_or {Φ : Ow → Bool → Prop} (h : NT X ω δ a fun ω1 k => if k = true then Φ ω1 true else NT X ω1 δ b Φ) : NT X ω δ (.BoolOp .Or [a, b] pos) Φ :=
  nt_w (nw_or (h.imp fun ω1 k f => by cases k with | false => exact nw_or1 f | true => exact f))
theorem nt_not {Φ : Ow → Bool → Prop} (h : NT X ω δ a fun ω1 k => Φ ω1 (!k)) : NT X ω δ (.UnaryOp .Not a pos) Φ := fun σ H Q s q =>
  WT.of (pt_not (WT.pt X a)) (h σ H _ s fun ω1 k H1 f1 s1 k1 => q ω1 _ H1 f1 s1 k1)
theorem n_one {op} (h : N X ω δ a Φ) : N X ω δ (.BoolOp op [a] pos) Φ := n_lift (pe_one (WE.pe X a)) fun σ H Q s q => h σ H Q s q
theorem n_and (h : N X ω δ a fun ω1 c => isB ω1 (fun ω1 k => if k = true then N X ω1 δ (.BoolOp .And (b :: rest) pos) Φ else Φ ω1 (.dat (.bool false))) c) : N X ω δ (.BoolOp .And (a :: b :: rest) pos) Φ :=
  n_lift (pe_and (WE.pe X a) (WE.pe X _)) fun σ H Q s q => h σ H _ s fun ω1 c v H1 ⟨k, e1, f1⟩ s1 k1 o1 => by
    subst e1
    cases bool_of o1
    refine ⟨k, rfl, ?_⟩
    cases k with
    | true => exact f1 σ H1 Q s1 fun ω2 c v H2 f2 s2 k2 o2 => q ω2 c v H2 f2 s2 (k1.trans k2) o2
    | false => exact q ω1 _ _ H1 f1 s1 k1 (Rp.bl false)
theorem n_or (h : N X ω δ a fun ω1 c => isB ω1 (fun ω1 k => if k = true then Φ ω1 (.dat (.bool true)) else N X ω1 δ (.BoolOp .Or (b :: rest) pos) Φ) c) : N X ω δ (.BoolOp .Or (a :: b :: rest) pos) Φ :=
  n_lift (pe_or (WE.pe X a) (WE.pe X _)) fun σ H Q s q => h σ H _ s fun ω1 c v H1 ⟨k, e1, f1⟩ s1 k1 o1 => by
    subst e1
    cases bool_of o1
    refine ⟨k, rfl, ?_⟩
    cases k with
    | false => exact f1 σ H1 Q s1 fun ω2 c v H2 f2 s2 k2 o2 => q ω2 c v H2 f2 s2 (k1.trans k2) o2
    | true => exact q ω1 _ _ H1 f1 s1 k1 (Rp.bl true)
theorem n_not (h : N X ω δ a fun ω1 c => isB ω1 (fun ω1 k => Φ ω1 (.dat (.bool (!k)))) c) : N X ω δ (.UnaryOp .Not a pos) Φ :=
  n_lift (pe_not (WE.pe X a)) fun σ H Q s q => h σ H _ s fun ω1 c v H1 ⟨k, e1, f1⟩ s1 k1 o1 => by
    subst e1
    cases bool_of o1
    exact ⟨k, rfl, q ω1 _ _ H1 f1 s1 k1 (Rp.bl _)⟩
/-! ## operators -/
theorem n_bop {op : Operator} {r : R2} (ho : OpR X (binaryOp op) r) (h : N X ω δ a fun ω1 c1 => N X ω1 δ b fun ω2 c2 => Op2 X r ω2 δ c1 c2 Φ) : N X ω δ (.BinOp a op b pos) Φ :=
  n_op2 (pe_op ho (WE.pe X a) (WE.pe X b)) h
theorem n_cop {op : CmpOp} {r : R2} (ho : OpR X (compareOp op) r) (hm : behindInMarks op b = false) (h : N X ω δ a fun ω1 c1 => N X ω1 δ b fun ω2 c2 => Op2 X r ω2 δ c1 c2 Φ) : N X ω δ (.Compare a [op] [b] pos) Φ :=
  n_op2 (pe_cmpR ho (WE.pe X a) (WE.pe X b) hm) h
/-- two ints -/
def isI2 (ω : Ow) (c1 c2 : Cell) (P : Int → Int → Prop) : Prop := ∃ i j, c1 = .dat (.int i) ∧ c2 = .dat (.int j) ∧ P i j
theorem isI2.mk {i j : Int} {P : Int → Int → Prop} (h : P i j) : isI2 ω (.dat (.int i)) (.dat (.int j)) P := ⟨i, j, rfl, rfl, h⟩
theorem op2_I0 {g : Int → Int → V} {G : Int → Int → PyData} {c1 c2 : Cell} (hg : ∀ K H i j, Rp K H (g i j) (G i j)) (h : isI2 ω c1 c2 fun i j => Φ ω (.dat (G i j))) : Op2 X (rI0 g) ω δ c1 c2 Φ := fun x y σ H Q s o1 o2 q => by
  obtain ⟨i, j, e1, e2, f⟩ := h
  subst e1; subst e2
  cases int_of o1; cases int_of o2
  exact ⟨i, j, rfl, rfl, q ω _ _ H f s (Kp.refl _ _) (hg _ _ i j)⟩
theorem op2_I {C : Int → Int → Prop} {g : Int → Int → V} {G : Int → Int → PyData} {c1 c2 : Cell} (hg : ∀ K H i j, Rp K H (g i j) (G i j)) (h : isI2 ω c1 c2 fun i j => C i j ∧ Φ ω (.dat (G i j))) : Op2 X (rI C g) ω δ c1 c2 Φ := fun x y σ H Q s o1 o2 q => by
  obtain ⟨i, j, e1, e2, hc, f⟩ := h
  subst e1; subst e2
  cases int_of o1; cases int_of o2
  exact ⟨i, j, rfl, rfl, hc, q ω _ _ H f s (Kp.refl _ _) (hg _ _ i j)⟩
theorem n_add (h : N X ω δ a fun ω1 c1 => N X ω1 δ b fun ω2 c2 => isI2 ω2 c1 c2 fun i j => Φ ω2 (.dat (.int (i + j)))) : N X ω δ (.BinOp a .Add b pos) Φ :=
  n_bop op_add (h.imp fun _ _ h1 => h1.imp fun _ _ h2 => op2_I0 (G := fun i j => .int (i + j)) (fun _ _ i j => .int _) h2)
theorem n_sub (h : N X ω δ a fun ω1 c1 => N X ω1 δ b fun ω2 c2 => isI2 ω2 c1 c2 fun i j => Φ ω2 (.dat (.int (i - j)))) : N X ω δ (.BinOp a .Sub b pos) Φ :=
  n_bop op_sub (h.imp fun _ _ h1 => h1.imp fun _ _ h2 => op2_I0 (G := fun i j => .int (i - j)) (fun _ _ i j => .int _) h2)
theorem n_mul (h : N X ω δ a fun ω1 c1 => N X ω1 δ b fun ω2 c2 => isI2 ω2 c1 c2 fun i j => CMul i j ∧ Φ ω2 (.dat (.int (i * j)))) : N X ω δ (.BinOp a .Mult b pos) Φ :=
  n_bop op_mul (h.imp fun _ _ h1 => h1.imp fun _ _ h2 => op2_I (G := fun i j => .int (i * j)) (fun _ _ i j => .int _) h2)
theorem n_mod (h : N X ω δ a fun ω1 c1 => N X ω1 δ b fun ω2 c2 => isI2 ω2 c1 c2 fun i j => j ≠ 0 ∧ Φ ω2 (.dat (.int (i.fmod j)))) : N X ω δ (.BinOp a .Mod b pos) Φ :=
  n_bop op_modN (h.imp fun _ _ h1 => h1.imp fun _ _ h2 => op2_I (G := fun i j => .int (i.fmod j)) (fun _ _ i j => .int _) h2)
theorem n_fdiv (h : N X ω δ a fun ω1 c1 => N X ω1 δ b fun ω2 c2 => isI2 ω2 c1 c2 fun i j => CDivN i j ∧ Φ ω2 (.dat (.int (i.fdiv j)))) : N X ω δ (.BinOp a .FloorDiv b pos) Φ :=
  n_bop op_fdivN (h.imp fun _ _ h1 => h1.imp fun _ _ h2 => op2_I (G := fun i j => .int (i.fdiv j)) (fun _ _ i j => .int _) h2)
theorem n_pow (h : N X ω δ a fun ω1 c1 => N X ω1 δ b fun ω2 c2 => isI2 ω2 c1 c2 fun i j => CPow i j ∧ Φ ω2 (.dat (.int (i ^ j.toNat)))) : N X ω δ (.BinOp a .Pow b pos) Φ :=
  n_bop op_pow (h.imp fun _ _ h1 => h1.imp fun _ _ h2 => op2_I (G := fun i j => .int (i ^ j.toNat)) (fun _ _ i j => .int _) h2)
theorem n_lt (h : N X ω δ a fun ω1 c1 => N X ω1 δ b fun ω2 c2 => isI2 ω2 c1 c2 fun i j => Φ ω2 (.dat (.bool (decide (i < j))))) : N X ω δ (.Compare a [.Lt] [b] pos) Φ :=
  n_cop op_lt (nomark _) (h.imp fun _ _ h1 => h1.imp fun _ _ h2 => op2_I0 (G := fun i j => .bool (decide (i < j))) (fun _ _ i j => .bl _) h2)
theorem n_le (h : N X ω δ a fun ω1 c1 => N X ω1 δ b fun ω2 c2 => isI2 ω2 c1 c2 fun i j => Φ ω2 (.dat (.bool (decide (i ≤ j))))) : N X ω δ (.Compare a [.LtE] [b] pos) Φ :=
  n_cop op_le (nomark _) (h.imp fun _ _ h1 => h1.imp fun _ _ h2 => op2_I0 (G := fun i j => .bool (decide (i ≤ j))) (fun _ _ i j => .bl _) h2)
theorem n_gt (h : N X ω δ a fun ω1 c1 => N X ω1 δ b fun ω2 c2 => isI2 ω2 c1 c2 fun i j => Φ ω2 (.dat (.bool (decide (j < i))))) : N X ω δ (.Compare a [.Gt] [b] pos) Φ :=
  n_cop op_gt (nomark _) (h.imp fun _ _ h1 => h1.imp fun _ _ h2 => op2_I0 (G := fun i j => .bool (decide (j < i))) (fun _ _ i j => .bl _) h2)
theorem n_ge (h : N X ω δ a fun ω1 c1 => N X ω1 δ b fun ω2 c2 => isI2 ω2 c1 c2 fun i j => Φ ω2 (.dat (.bool (decide (j ≤ i))))) : N X ω δ (.Compare a [.GtE] [b] pos) Φ :=
  n_cop op_ge (nomark _) (h.imp fun _ _ h1 => h1.imp fun _ _ h2 => op2_I0 (G := fun i j => .bool (decide (j ≤ i))) (fun _ _ i j => .bl _) h2)
theorem n_neg (h : N X ω δ a fun ω1 c1 => ∃ i, c1 = .dat (.int i) ∧ Φ ω1 (.dat (.int (-i)))) : N X ω δ (.UnaryOp .USub a pos) Φ :=
  n_op1 (pe_un un_neg (WE.pe X a)) (h.imp fun ω1 c1 ⟨i, e1, f⟩ x σ H Q s o q => by
    subst e1
    cases int_of o
    exact ⟨i, rfl, q ω1 _ _ H f s (Kp.refl _ _) (Rp.int _)⟩)
/-- == of data without dicts -/
theorem op2_eq {c1 c2 : Cell} (h : ∃ d1 d2, c1 = .dat d1 ∧ c2 = .dat d2 ∧ SeqAt.shaped d1 = true ∧ SeqAt.shaped d2 = true ∧ Φ ω (.dat (.bool (PyData.eqv d1 d2)))) : Op2 X (rEqD X.K) ω δ c1 c2 Φ := fun x y σ H Q s o1 o2 q => by
  obtain ⟨d1, d2, e1, e2, h1, h2, f⟩ := h
  subst e1; subst e2
  exact ⟨d1, d2, dp_of (SeqAt.canLay_of_shaped h1) (Rp.mono hid_same o1), dp_of (SeqAt.canLay_of_shaped h2) (Rp.mono hid_same o2), h1, h2, q ω _ _ H f s (Kp.refl _ _) (Rp.bl _)⟩
theorem op2_ne {c1 c2 : Cell} (h : ∃ d1 d2, c1 = .dat d1 ∧ c2 = .dat d2 ∧ SeqAt.shaped d1 = true ∧ SeqAt.shaped d2 = true ∧ Φ ω (.dat (.bool (!PyData.eqv d1 d2)))) : Op2 X (rNeD X.K) ω δ c1 c2 Φ := fun x y σ H Q s o1 o2 q => by
  obtain ⟨d1, d2, e1, e2, h1, h2, f⟩ := h
  subst e1; subst e2
  exact ⟨d1, d2, dp_of (SeqAt.canLay_of_shaped h1) (Rp.mono hid_same o1), dp_of (SeqAt.canLay_of_shaped h2) (Rp.mono hid_same o2), h1, h2, q ω _ _ H f s (Kp.refl _ _) (Rp.bl _)⟩
theorem n_eq (hu : X.A.units + 64 < cLine) (h : N X ω δ a fun ω1 c1 => N X ω1 δ b fun ω2 c2 => ∃ d1 d2, c1 = .dat d1 ∧ c2 = .dat d2 ∧ SeqAt.shaped d1 = true ∧ SeqAt.shaped d2 = true ∧ Φ ω2 (.dat (.bool (PyData.eqv d1 d2)))) : N X ω δ (.Compare a [.Eq] [b] pos) Φ :=
  n_cop (op_eqD hu) (nomark _) (h.imp fun _ _ h1 => h1.imp fun _ _ h2 => op2_eq h2)
theorem n_ne (hu : X.A.units + 64 < cLine) (h : N X ω δ a fun ω1 c1 => N X ω1 δ b fun ω2 c2 => ∃ d1 d2, c1 = .dat d1 ∧ c2 = .dat d2 ∧ SeqAt.shaped d1 = true ∧ SeqAt.shaped d2 = true ∧ Φ ω2 (.dat (.bool (!PyData.eqv d1 d2)))) : N X ω δ (.Compare a [.NotEq] [b] pos) Φ :=
  n_cop (op_neD hu) (nomark _) (h.imp fun _ _ h1 => h1.imp fun _ _ h2 => op2_ne h2)
/-- is None -/
def isNone : PyData → Bool
  | .none => true
  | _ => false
theorem rp_non {K : PySem.W.Frag} {H : Hp} {v : V} {d : PyData} (h : Rp K H v d) : decide (v = .non) = isNone d := by cases h <;> simp [isNone]
theorem n_isN (h : N X ω δ a fun ω1 c1 => ∃ d, c1 = .dat d ∧ Φ ω1 (.dat (.bool (isNone d)))) {j p2} : N X ω δ (.Compare a [.Is] [.Constant .none j p2] pos) Φ :=
  n_lift (pe_cmp (pc_isN (WE.pe X a))) fun σ H Q s q => h σ H _ s fun ω1 c v H1 ⟨d, e1, f1⟩ s1 k1 o1 => by
    subst e1
    show Q (.bl (decide (v = .non))) H1
    rw [rp_non o1]
    exact q ω1 _ _ H1 f1 s1 k1 (Rp.bl _)
theorem n_notN (h : N X ω δ a fun ω1 c1 => ∃ d, c1 = .dat d ∧ Φ ω1 (.dat (.bool (!isNone d)))) {j p2} : N X ω δ (.Compare a [.IsNot] [.Constant .none j p2] pos) Φ :=
  n_lift (pe_cmp (pc_notN (WE.pe X a))) fun σ H Q s q => h σ H _ s fun ω1 c v H1 ⟨d, e1, f1⟩ s1 k1 o1 => by
    subst e1
    show Q (.bl (!decide (v = .non))) H1
    rw [rp_non o1]
    exact q ω1 _ _ H1 f1 s1 k1 (Rp.bl _)
/-! ## sequences -/
theorem atI_rp {K : PySem.W.Frag} {H : Hp} {xs : List V} {ds : List PyData} {i : Int} {d : PyData} (r : RpA K H xs ds) (h : atI ds i = some d) : ∃ v, atI xs i = some v ∧ Rp K H v d := by
  unfold atI at h ⊢
  rw [r.len]
  cases q : ixN ds.length i with
  | none => rw [q] at h; cases h
  | some j =>
    rw [q] at h
    exact r.get h
theorem n_ixl (hp : PlainIx b) (h : N X ω δ a fun ω1 c1 => N X ω1 δ b fun ω2 c2 => ∃ ds i d, c1 = .dat (.list ds) ∧ c2 = .dat (.int i) ∧ atI ds i = some d ∧ Φ ω2 (.dat d)) : N X ω δ (.Subscript a b pos) Φ :=
  n_op2 (pe_ix ix_list (WE.pe X a) (WE.pe X b) hp) (h.imp fun _ _ h1 => h1.imp fun ω2 _ ⟨ds, i, d, e1, e2, hi, f⟩ x y σ H Q s o1 o2 q => by
    subst e1; subst e2
    cases int_of o2
    cases o1 with
    | @lst p xs ds hl hr =>
      obtain ⟨v, h1, h2⟩ := atI_rp hr hi
      exact ⟨p, xs, i, v, rfl, rfl, SqL.of (hid_some hl).2, h1, q ω2 _ v H f s (Kp.refl _ _) h2⟩)
theorem n_ixt (hp : PlainIx b) (h : N X ω δ a fun ω1 c1 => N X ω1 δ b fun ω2 c2 => ∃ ds i d, c1 = .dat (.tuple ds) ∧ c2 = .dat (.int i) ∧ atI ds i = some d ∧ Φ ω2 (.dat d)) : N X ω δ (.Subscript a b pos) Φ :=
  n_op2 (pe_ix ix_tup (WE.pe X a) (WE.pe X b) hp) (h.imp fun _ _ h1 => h1.imp fun ω2 _ ⟨ds, i, d, e1, e2, hi, f⟩ x y σ H Q s o1 o2 q => by
    subst e1; subst e2
    cases int_of o2
    cases o1 with
    | @tup p xs ds hl hr =>
      obtain ⟨v, h1, h2⟩ := atI_rp hr hi
      exact ⟨p, xs, i, v, rfl, rfl, sqt_hid hl, h1, q ω2 _ v H f s (Kp.refl _ _) h2⟩)
end
end DL

namespace DL
open PySem PySem.Spec L2
/-! ## argument lists, displays -/
section
variable {X : Cx} {ω : Ow} {δ : Env} {e a b c : Expr} {rest es : List Expr} {Φ : Ow → Cell → Prop} {ΦA : Ow → List Cell → Prop} {pos : Pos}
theorem na_nil (h : ΦA ω []) : NA X ω δ [] ΦA := fun σ H Q s q => WA.of pa_nil (q ω [] [] H h s (Kp.refl _ _) .nil)
theorem na_cons (h : N X ω δ e fun ω1 c1 => NA X ω1 δ es fun ω2 cs => ΦA ω2 (c1 :: cs)) (hs : starEach (e :: es) X.env = (false, eval e X.env) :: starEach es X.env := by rfl) : NA X ω δ (e :: es) ΦA := fun σ H Q s q =>
  WA.of (pa_cons (WE.pe X e) (WA.pa X es) hs) (h σ H _ s fun ω1 c1 v H1 f1 s1 k1 o1 => f1 σ H1 _ s1 fun ω2 cs vs H2 f2 s2 k2 o2 => q ω2 _ _ H2 f2 s2 (k1.trans k2) (.cons (o1.mono k2) o2))
def dats (ds : List PyData) : List Cell := ds.map .dat
theorem cells_rpa {K : PySem.W.Frag} {O : List Addr} {H : Hp} : ∀ {vs : List V} {ds : List PyData}, Cells K O H vs (dats ds) → RpA K (hid O H) vs ds
  | [], [], _ => .nil
  | _ :: _, _ :: _, h => by
    cases h with
    | cons h r => exact .cons h (cells_rpa r)
  | [], _ :: _, h => nomatch h
  | _ :: _, [], h => nomatch h
theorem sz1000 {n : Nat} (h : n ≤ 1000) : n ≤ sizeLine := Nat.le_trans h (by decide)
theorem n_tup {x1} (h : NA X ω δ es fun ω1 cs => ∃ ds, cs = dats ds ∧ ds.length ≤ 1000 ∧ Φ ω1 (.dat (.tuple ds))) : N X ω δ (.Tuple es x1 pos) Φ :=
  n_lift (pe_tup (WA.pa X es)) fun σ H Q s q => h σ H _ s fun ω1 cs vs H1 ⟨ds, e1, z, f⟩ s1 k1 o1 => by
    subst e1
    have r := cells_rpa o1
    refine ⟨by rw [r.len]; exact sz1000 z, fun p hp => ?_⟩
    exact q ω1 _ _ _ f (s1.new hp) (k1.trans (kp_new s1.own hp)) (new_tup s1.own hp r)
theorem n_lst (h : NA X ω δ es fun ω1 cs => ∃ ds, cs = dats ds ∧ ds.length ≤ 1000 ∧ Φ ω1 (.dat (.list ds))) : N X ω δ (.List es pos) Φ :=
  n_lift (pe_lst (WA.pa X es)) fun σ H Q s q => h σ H _ s fun ω1 cs vs H1 ⟨ds, e1, z, f⟩ s1 k1 o1 => by
    subst e1
    have r := cells_rpa o1
    refine ⟨by rw [r.len]; exact sz1000 z, fun p hp => ?_⟩
    exact q ω1 _ _ _ f (s1.new hp) (k1.trans (kp_new s1.own hp)) (new_lst s1.own hp r)
/-! ## owned lists -/
def lstP (ds : List PyData) : OwnP := ⟨fun K H o => ∃ vs, o = .lst vs ∧ RpA K H vs ds, fun K H H' o e ⟨vs, h1, h2⟩ => ⟨vs, h1, h2.mono e⟩⟩
theorem hid_upd {O : List Addr} {H : Hp} {p : Addr} {o : HO} (h : p ∈ O) : hid O (upd H p o) = hid O H := by
  funext b
  by_cases q : b ∈ O
  · rw [hid_in q, hid_in q]
  · rw [hid_out q, hid_out q, upd_ne (fun e => q (by rw [e]; exact h))]
theorem dom_set {ω : Ow} {i : Nat} {p : Addr} {P P' : OwnP} (h : ω[i]? = some (p, P)) : dom (ω.set i (p, P')) = dom ω := by
  unfold dom
  rw [List.map_set]
  apply List.ext_getElem?
  intro j
  rw [List.getElem?_set]
  split
  · rename_i e
    subst e
    have hl := (List.getElem?_eq_some_iff.mp h).1
    rw [List.length_map, if_pos hl, List.getElem?_map, h]
    rfl
  · rfl
theorem mem_dom {ω : Ow} {i : Nat} {p : Addr} {P : OwnP} (h : ω[i]? = some (p, P)) : p ∈ dom ω := List.mem_map.mpr ⟨(p, P), List.mem_of_getElem? h, rfl⟩
theorem kp_upd {O : List Addr} {H : Hp} {p : Addr} {o : HO} (h : p ∈ O) : Kp O H O (upd H p o) := by
  intro b u q
  rw [hid_upd h]
  exact q
theorem OwnOk.put {K : PySem.W.Frag} {ω : Ow} {H : Hp} {i : Nat} {p : Addr} {P P' : OwnP} {o : HO} (s : OwnOk K ω H) (h : ω[i]? = some (p, P)) (ho : P'.ok K (hid (dom ω) H) o) : OwnOk K (ω.set i (p, P')) (upd H p o) := by
  refine ⟨by rw [dom_set h]; exact s.nd, fun a R q => ?_⟩
  rw [dom_set h, hid_upd (mem_dom h)]
  have nd := s.nd
  obtain ⟨j, hj⟩ := List.getElem?_of_mem q
  rw [List.getElem?_set] at hj
  split at hj
  · split at hj
    · cases hj
      exact ⟨o, upd_same, ho⟩
    · cases hj
  · rename_i hij
    have hne : a ≠ p := by
      intro e
      have h1 : (dom ω)[i]? = some p := by unfold dom; rw [List.getElem?_map, h]; rfl
      have h2 : (dom ω)[j]? = some a := by unfold dom; rw [List.getElem?_map, hj]; rfl
      rw [e] at h2
      exact hij ((List.getElem?_inj (List.getElem?_eq_some_iff.mp h1).1 nd).mp (h1.trans h2.symm))
    obtain ⟨u, h1, h2⟩ := s.at_ a R (List.mem_of_getElem? hj)
    exact ⟨u, by rw [upd_ne hne]; exact h1, h2⟩
theorem StOk.put {K : PySem.W.Frag} {ω : Ow} {δ : Env} {σ : St} {H : Hp} {i : Nat} {p : Addr} {P P' : OwnP} {o : HO} (s : StOk K ω δ σ H) (h : ω[i]? = some (p, P)) (ho : P'.ok K (hid (dom ω) H) o) : StOk K (ω.set i (p, P')) δ σ (upd H p o) :=
  ⟨by rw [dom_set h]; exact s.env.mono (kp_upd (mem_dom h)), s.own.put h ho⟩
/-- a new owned object -/
theorem OwnOk.cons {K : PySem.W.Frag} {ω : Ow} {H : Hp} {p : Addr} {P : OwnP} {o : HO} (s : OwnOk K ω H) (hp : H p = none) (ho : P.ok K (hid (dom ω) H) o) : OwnOk K ((p, P) :: ω) (upd H p o) ∧ Kp (dom ω) H (dom ((p, P) :: ω)) (upd H p o) := by
  have k : Kp (dom ω) H (dom ((p, P) :: ω)) (upd H p o) := fun b u q => by
    obtain ⟨h1, h2⟩ := hid_some q
    have hb : b ≠ p := ne_of_none h2 hp
    have hb2 : b ∉ dom ((p, P) :: ω) := fun z => (List.mem_cons.mp z).elim hb h1
    rw [hid_out hb2, upd_ne hb]
    exact h2
  refine ⟨⟨List.nodup_cons.mpr ⟨s.notin hp, s.nd⟩, fun a R q => ?_⟩, k⟩
  rcases List.mem_cons.mp q with e | q
  · cases e
    exact ⟨o, upd_same, P.mono _ _ _ _ k ho⟩
  · obtain ⟨u, h1, h2⟩ := s.at_ a R q
    exact ⟨u, by rw [upd_ne (ne_of_none h1 hp)]; exact h1, R.mono _ _ _ _ k h2⟩
theorem StOk.cons {K : PySem.W.Frag} {ω : Ow} {δ : Env} {σ : St} {H : Hp} {p : Addr} {P : OwnP} {o : HO} (s : StOk K ω δ σ H) (hp : H p = none) (ho : P.ok K (hid (dom ω) H) o) : StOk K ((p, P) :: ω) δ σ (upd H p o) :=
  ⟨s.env.mono (s.own.cons hp ho).2, (s.own.cons hp ho).1⟩
/-- the first owned object is let go: what it holds is data from now on -/
theorem kp_drop {ω : Ow} {H : Hp} {p : Addr} {P : OwnP} : Kp (dom ((p, P) :: ω)) H (dom ω) H := fun b u q => by
  obtain ⟨h1, h2⟩ := hid_some q
  rw [hid_out (fun z => h1 (List.mem_cons_of_mem _ z))]
  exact h2
theorem OwnOk.drop {K : PySem.W.Frag} {ω : Ow} {H : Hp} {p : Addr} {P : OwnP} (s : OwnOk K ((p, P) :: ω) H) : OwnOk K ω H := by
  have nd := List.nodup_cons.mp s.nd
  refine ⟨nd.2, fun a R q => ?_⟩
  obtain ⟨u, h1, h2⟩ := s.at_ a R (List.mem_cons_of_mem _ q)
  exact ⟨u, h1, R.mono _ _ _ _ kp_drop h2⟩
theorem StOk.drop {K : PySem.W.Frag} {ω : Ow} {δ : Env} {σ : St} {H : Hp} {p : Addr} {P : OwnP} (s : StOk K ((p, P) :: ω) δ σ H) : StOk K ω δ σ H := ⟨s.env.mono kp_drop, s.own.drop⟩
theorem own_lst {K : PySem.W.Frag} {ω : Ow} {H : Hp} {p : Addr} {ds : List PyData} (s : OwnOk K ((p, lstP ds) :: ω) H) : Rp K (hid (dom ω) H) (.ref p) (.list ds) := by
  obtain ⟨o, h1, vs, rfl, h2⟩ := s.at_ p _ List.mem_cons_self
  have nd := List.nodup_cons.mp s.nd
  exact .lst (by rw [hid_out nd.1]; exact h1) (h2.mono kp_drop)
/-- a new list that may grow -/
theorem n_lstO (h : NA X ω δ es fun ω1 cs => ∃ ds, cs = dats ds ∧ ds.length ≤ 1000 ∧ ∀ p, Φ ((p, lstP ds) :: ω1) (.raw (.ref p))) : N X ω δ (.List es pos) Φ :=
  n_lift (pe_lst (WA.pa X es)) fun σ H Q s q => h σ H _ s fun ω1 cs vs H1 ⟨ds, e1, z, f⟩ s1 k1 o1 => by
    subst e1
    have r := cells_rpa o1
    refine ⟨by rw [r.len]; exact sz1000 z, fun p hp => ?_⟩
    have ho : (lstP ds).ok X.K (hid (dom ω1) H1) (.lst vs) := ⟨vs, rfl, r⟩
    exact q _ _ _ _ (f p) (s1.cons hp ho) (k1.trans (s1.own.cons hp ho).2) rfl
/-- the name of the first owned list, read to be handed on: from now on it is data -/
theorem n_share (i : Nat) {x : Str} {p : Addr} {ds : List PyData} (h : Φ ω (.dat (.list ds))) (hd : δ[i]? = some (some (.raw (.ref p))) := by rfl) (hN : X.N[i]? = some x := by rfl) (hv : Vis X.env.scope x := by first | exact Or.inl rfl | exact Or.inr (Or.inl rfl) | exact Or.inr (Or.inr rfl))
    (hg : (x == ("__debug__" : Str)) = false := by decide) (hcd : (x == ("__classdict__" : Str)) = false := by decide) : N X ((p, lstP ds) :: ω) δ (.Name x pos) Φ :=
  n_lift (pe_var hN hv hg hcd) fun σ H Q s q => by
    obtain ⟨v, h1, h2⟩ := s.get hd
    cases h2
    exact ⟨_, h1, q ω _ _ H h s.drop kp_drop (own_lst s.own)⟩
end
/-! ## blocks -/
section
variable {X : Cx} {ω : Ow} {δ : Env} {e a b c : Expr} {st : Stmt} {rest body orelse : List Stmt} {E : En} {pos : Pos}
theorem b_nil (h : E.nx ω δ) : B X ω δ [] E := fun σ H D s f => WB.of pss_nil (f.nx ω δ σ H h s (Kp.refl _ _))
theorem b_cons (h : S X ω δ st { E with nx := fun ω1 δ1 => B X ω1 δ1 rest E }) : B X ω δ (st :: rest) E := fun σ H D s f =>
  WB.of (pss_cons (WS.ps X st) (WB.pss X rest)) (h σ H { D with nx := fun σ' H' => WB X rest D σ' H' } s ⟨fun ω1 δ1 σ1 H1 q s1 k1 => q σ1 H1 D s1 (f.after k1), f.rt, f.bk, f.ct⟩)
theorem b_one (h : S X ω δ st E) : B X ω δ [st] E := fun σ H D s f => WB.of (pss_one (WS.ps X st)) (h σ H D s f)
theorem StOk.store {K : PySem.W.Frag} {ω : Ow} {δ : Env} {σ : St} {H : Hp} {v : V} {c : Cell} (s : StOk K ω δ σ H) (i : Nat) (h : CellOk K (dom ω) H v c) : StOk K ω (δ.set i (some c)) (σ.set i (some v)) H := ⟨s.env.set h i, s.own⟩
theorem s_set (i : Nat) {x : Str} {p2 : Pos} (hN : X.N.Nodup) (h : N X ω δ e fun ω1 c => E.nx ω1 (δ.set i (some c))) (hi : X.N[i]? = some x := by rfl) (hx : Loc X.env.scope x := by first | exact Or.inl rfl | exact Or.inr rfl) (hs : swapsWith e (some (.Name x p2)) pos.line X.env = pure false := by rfl)
    (hf : X.fn x = true ∨ X.env.scope.names.lookup x = some .local := by first | exact .inl rfl | exact .inr rfl | assumption) : S X ω δ (.Assign [.Name x p2] e pos) E := fun σ H D s f =>
  WS.of (ps_set hN hi hx (WE.pe X e) hs hf) (h σ H _ s fun ω1 c v H1 q s1 k1 o1 => f.nx ω1 _ _ H1 q (s1.store i o1) k1)
theorem s_ret (h : N X ω δ e fun ω1 c => E.rt ω1 c) : S X ω δ (.Return (some e) pos) E := fun σ H D s f =>
  WS.of (ps_ret (WE.pe X e)) (h σ H _ s fun ω1 c v H1 q s1 k1 o1 => f.rt ω1 c v H1 q s1.own k1 o1)
theorem s_retN (h : E.rt ω (.dat .none)) : S X ω δ (.Return none pos) E := fun σ H D s f => WS.of ps_retN (f.rt ω _ _ H h s.own (Kp.refl _ _) Rp.non)
theorem s_if (h : NT X ω δ c fun ω1 k => if k = true then B X ω1 δ body E else B X ω1 δ orelse E) : S X ω δ (.If c body orelse pos) E := fun σ H D s f =>
  WS.of (ps_if (WT.pt X c) (WB.pss X body) (WB.pss X orelse)) (h σ H _ s fun ω1 k H1 q s1 k1 => by
    cases k with
    | true => exact q σ H1 D s1 (f.after k1)
    | false => exact q σ H1 D s1 (f.after k1))
theorem s_expr (h : N X ω δ e fun ω1 _ => E.nx ω1 δ) (hs : swapsWith e none pos.line X.env = pure false := by rfl) : S X ω δ (.Expr e pos) E := fun σ H D s f =>
  WS.of (ps_expr (WE.pe X e) hs) (h σ H _ s fun ω1 c v H1 q s1 k1 o1 => f.nx ω1 δ σ H1 q s1 k1)
theorem s_pass (h : E.nx ω δ) : S X ω δ (.Pass pos) E := fun σ H D s f => WS.of ps_pass (f.nx ω δ σ H h s (Kp.refl _ _))
theorem s_break (h : E.bk ω δ) : S X ω δ (.Break pos) E := fun σ H D s f => WS.of ps_break (f.bk ω δ σ H h s (Kp.refl _ _))
theorem s_continue (h : E.ct ω δ) : S X ω δ (.Continue pos) E := fun σ H D s f => WS.of ps_continue (f.ct ω δ σ H h s (Kp.refl _ _))
theorem s_augI (i : Nat) {x : Str} {p2 : Pos} {n : Int} (hN : X.N.Nodup) (hd : δ[i]? = some (some (.dat (.int n)))) (h : N X ω δ e fun ω1 c => ∃ m, c = .dat (.int m) ∧ E.nx ω1 (δ.set i (some (.dat (.int (n + m)))))) (hi : X.N[i]? = some x := by rfl) (hx : Loc X.env.scope x := by first | exact Or.inl rfl | exact Or.inr rfl)
    (hf : X.fn x = true ∨ X.env.scope.names.lookup x = some .local := by first | exact .inl rfl | exact .inr rfl | assumption) : S X ω δ (.AugAssign (.Name x p2) .Add e pos) E := fun σ H D s f =>
  WS.of (ps_aug hN hi hx (WE.pe X e) ip_add hf) (by
    obtain ⟨v, h1, h2⟩ := s.get hd
    cases int_of h2
    refine ⟨_, h1, h σ H _ s fun ω1 c v H1 ⟨m, e1, q⟩ s1 k1 o1 => ?_⟩
    subst e1
    cases int_of o1
    exact ⟨n, m, rfl, rfl, f.nx ω1 _ _ H1 q (s1.store i (c := .dat (.int (n + m))) (Rp.int _)) k1⟩)
/-- a, b = x, y: two plain local names, stored from the right; no pair is seen -/
theorem s_par (i j : Nat) {x y : Str} {px py pt : Pos} {kt k2 pt2} (hc : X.calm = true) (hN : X.N.Nodup) (h : NA X ω δ [a, b] fun ω1 cs => ∃ c1 c2, cs = [c1, c2] ∧ E.nx ω1 ((δ.set i (some c1)).set j (some c2)))
    (hij : i ≠ j := by decide) (hi : X.N[i]? = some x := by rfl) (hj : X.N[j]? = some y := by rfl) (hx : X.env.scope.names.lookup x = some .local := by rfl) (hy : X.env.scope.names.lookup y = some .local := by rfl)
    (hw : swappedStores [.Tuple [.Name x px, .Name y py] kt pt] (.Tuple [a, b] k2 pt2) X.env = pure (some [x, y]) := by rfl)
    (hs : swapsWithSole [.Tuple [.Name x px, .Name y py] kt pt] (.Tuple [a, b] k2 pt2) pos.line X.env = pure false := by rfl) : S X ω δ (.Assign [.Tuple [.Name x px, .Name y py] kt pt] (.Tuple [a, b] k2 pt2) pos) E := fun σ H D s f =>
  WS.of (ps_par hc hN hi hj hij hx hy (WA.pa X _) hw hs) (h σ H _ s fun ω1 cs vs H1 ⟨c1, c2, e1, q⟩ s1 k1 o1 => by
    subst e1
    cases o1 with
    | cons o1 r =>
      cases r with
      | cons o2 r =>
        cases r
        exact ⟨_, _, rfl, f.nx ω1 _ _ H1 q ((s1.store i o1).store j o2) k1⟩)
end
end DL

namespace DL
open PySem PySem.Spec L2
section
variable {X : Cx} {ω : Ow} {δ : Env} {e a b c : Expr} {rest es : List Expr} {Φ : Ow → Cell → Prop} {ΦA : Ow → List Cell → Prop} {pos p1 p2 : Pos} {x : Str}
/-! ## calls of built-ins -/
def CallD (X : Cx) (r : List V → Hp → VK → Prop) (ω : Ow) (δ : Env) (cs : List Cell) (Φ : Ow → Cell → Prop) : Prop :=
  ∀ vs σ H Q, StOk X.K ω δ σ H → Cells X.K (dom ω) H vs cs → (∀ ω' c v H', Φ ω' c → StOk X.K ω' δ σ H' → Kp (dom ω) H (dom ω') H' → CellOk X.K (dom ω') H' v c → Q v H') → r vs H Q
theorem n_callB {id : String} {r : List V → Hp → VK → Prop} (hc : CallR X (.builtin id) r) (hm : X.mg x = none) (h : NA X ω δ (e :: es) fun ω1 cs => CallD X r ω1 δ cs Φ) (hg : Gl X x := by rfl) (hv : bootBuiltins x = some (.builtin id) := by decide +kernel)
    (hn : x ≠ "__name__" := by decide) (hdb : (x == ("__debug__" : Str)) = false := by decide)
    (he : starEach (e :: es) X.env = (false, eval e X.env) :: starEach es X.env := by rfl) (hpl : (backTo pos (starEach es X.env)).any (·.1) = false := by rfl) : N X ω δ (.Call (.Name x p1) (e :: es) [] pos) Φ :=
  n_lift (pe_callB hc hg hm hv (WA.pa X _) hn hdb he hpl) fun σ H Q s q => h σ H _ s fun ω1 cs vs H1 f s1 k1 o1 => f vs σ H1 Q s1 o1 fun ω2 c v H2 f2 s2 k2 o2 => q ω2 c v H2 f2 s2 (k1.trans k2) o2
theorem n_callTy {T : String} {r : List V → Hp → VK → Prop} (hc : CallR X (.type T) r) (hm : X.mg x = none) (h : NA X ω δ (e :: es) fun ω1 cs => CallD X r ω1 δ cs Φ) (hg : Gl X x := by rfl) (hv : bootBuiltins x = some (.type T) := by decide +kernel)
    (hn : x ≠ "__name__" := by decide) (hdb : (x == ("__debug__" : Str)) = false := by decide)
    (he : starEach (e :: es) X.env = (false, eval e X.env) :: starEach es X.env := by rfl) (hpl : (backTo pos (starEach es X.env)).any (·.1) = false := by rfl) : N X ω δ (.Call (.Name x p1) (e :: es) [] pos) Φ :=
  n_lift (pe_callTy hc hg hm hv (WA.pa X _) hn hdb he hpl) fun σ H Q s q => h σ H _ s fun ω1 cs vs H1 f s1 k1 o1 => f vs σ H1 Q s1 o1 fun ω2 c v H2 f2 s2 k2 o2 => q ω2 c v H2 f2 s2 (k1.trans k2) o2
theorem cells1 {K : PySem.W.Frag} {O : List Addr} {H : Hp} {vs : List V} {c : Cell} (h : Cells K O H vs [c]) : ∃ v, vs = [v] ∧ CellOk K O H v c := by
  cases h with
  | cons o r => cases r; exact ⟨_, rfl, o⟩
theorem cells2 {K : PySem.W.Frag} {O : List Addr} {H : Hp} {vs : List V} {c d : Cell} (h : Cells K O H vs [c, d]) : ∃ v w, vs = [v, w] ∧ CellOk K O H v c ∧ CellOk K O H w d := by
  cases h with
  | cons o r =>
    cases r with
    | cons o2 r => cases r; exact ⟨_, _, rfl, o, o2⟩
/-- the length of a datum -/
def lenD : PyData → Option Nat
  | .list ds => some ds.length
  | .tuple ds => some ds.length
  | _ => none
theorem n_len (hm : X.mg "len" = none) (h : N X ω δ a fun ω1 c => ∃ d n, c = .dat d ∧ lenD d = some n ∧ Φ ω1 (.dat (.int (n : Int)))) (hg : Gl X "len" := by rfl) (he : starEach [a] X.env = (false, eval a X.env) :: starEach [] X.env := by rfl) : N X ω δ (.Call (.Name "len" p1) [a] [] pos) Φ :=
  n_callB call_len_seq hm (na_cons (h.imp fun ω1 c ⟨d, n, e1, e2, f⟩ => na_nil fun vs σ H Q s o q => by
    subst e1
    obtain ⟨v, rfl, ov⟩ := cells1 o
    cases ov with
    | lst hl r =>
      obtain rfl := Option.some.inj e2
      exact ⟨_, _, rfl, .inl (SqL.of (hid_some hl).2), by rw [r.len]; exact q ω1 _ _ H f s (Kp.refl _ _) (Rp.int _)⟩
    | tup hl r =>
      obtain rfl := Option.some.inj e2
      exact ⟨_, _, rfl, .inr (sqt_hid hl), by rw [r.len]; exact q ω1 _ _ H f s (Kp.refl _ _) (Rp.int _)⟩
    | _ => exact absurd e2 (by simp [lenD])) he) hg (he := he)
theorem n_abs (hm : X.mg "abs" = none) (h : N X ω δ a fun ω1 c => ∃ i, c = .dat (.int i) ∧ Φ ω1 (.dat (.int (if i < 0 then -i else i)))) (hg : Gl X "abs" := by rfl) (he : starEach [a] X.env = (false, eval a X.env) :: starEach [] X.env := by rfl) : N X ω δ (.Call (.Name "abs" p1) [a] [] pos) Φ :=
  n_callB call_abs hm (na_cons (h.imp fun ω1 c ⟨i, e1, f⟩ => na_nil fun vs σ H Q s o q => by
    subst e1
    obtain ⟨v, rfl, ov⟩ := cells1 o
    cases int_of ov
    exact ⟨i, rfl, q ω1 _ _ H f s (Kp.refl _ _) (Rp.int _)⟩) he) hg (he := he)
theorem n_intI (hm : X.mg "int" = none) (h : N X ω δ a fun ω1 c => ∃ i, c = .dat (.int i) ∧ Φ ω1 (.dat (.int i))) (hg : Gl X "int" := by rfl) (he : starEach [a] X.env = (false, eval a X.env) :: starEach [] X.env := by rfl) : N X ω δ (.Call (.Name "int" p1) [a] [] pos) Φ :=
  n_callTy call_int1 hm (na_cons (h.imp fun ω1 c ⟨i, e1, f⟩ => na_nil fun vs σ H Q s o q => by
    subst e1
    obtain ⟨v, rfl, ov⟩ := cells1 o
    cases int_of ov
    exact .inl ⟨i, rfl, q ω1 _ _ H f s (Kp.refl _ _) (Rp.int _)⟩) he) hg (he := he)
/-- list(x) as new data -/
theorem n_listOf (hm : X.mg "list" = none) (h : N X ω δ a fun ω1 c => ∃ ds, (c = .dat (.list ds) ∨ c = .dat (.tuple ds)) ∧ Φ ω1 (.dat (.list ds))) (hg : Gl X "list" := by rfl) (he : starEach [a] X.env = (false, eval a X.env) :: starEach [] X.env := by rfl) : N X ω δ (.Call (.Name "list" p1) [a] [] pos) Φ :=
  n_callTy call_list_of hm (na_cons (h.imp fun ω1 c ⟨ds, e1, f⟩ => na_nil fun vs σ H Q s o q => by
    obtain ⟨v, rfl, ov⟩ := cells1 o
    rcases e1 with rfl | rfl
    · cases ov with
      | lst hl r => exact ⟨_, _, rfl, .inl (SqL.of (hid_some hl).2), fun l hn => q ω1 _ _ _ f (s.new hn) (kp_new s.own hn) (new_lst s.own hn r)⟩
    · cases ov with
      | tup hl r => exact ⟨_, _, rfl, .inr (sqt_hid hl), fun l hn => q ω1 _ _ _ f (s.new hn) (kp_new s.own hn) (new_lst s.own hn r)⟩) he) hg (he := he)
/-- .. as an owned list -/
theorem n_listOfO (hm : X.mg "list" = none) (h : N X ω δ a fun ω1 c => ∃ ds, (c = .dat (.list ds) ∨ c = .dat (.tuple ds)) ∧ ∀ p, Φ ((p, lstP ds) :: ω1) (.raw (.ref p))) (hg : Gl X "list" := by rfl) (he : starEach [a] X.env = (false, eval a X.env) :: starEach [] X.env := by rfl) : N X ω δ (.Call (.Name "list" p1) [a] [] pos) Φ :=
  n_callTy call_list_of hm (na_cons (h.imp fun ω1 c ⟨ds, e1, f⟩ => na_nil fun vs σ H Q s o q => by
    obtain ⟨v, rfl, ov⟩ := cells1 o
    rcases e1 with rfl | rfl
    · cases ov with
      | @lst _ xs _ hl r =>
        have ho : (lstP ds).ok X.K (hid (dom ω1) H) (.lst xs) := ⟨xs, rfl, r⟩
        exact ⟨_, _, rfl, .inl (SqL.of (hid_some hl).2), fun l hn => q _ _ _ _ (f l) (s.cons hn ho) (s.own.cons hn ho).2 rfl⟩
    · cases ov with
      | @tup _ xs _ hl r =>
        have ho : (lstP ds).ok X.K (hid (dom ω1) H) (.lst xs) := ⟨xs, rfl, r⟩
        exact ⟨_, _, rfl, .inr (sqt_hid hl), fun l hn => q _ _ _ _ (f l) (s.cons hn ho) (s.own.cons hn ho).2 rfl⟩) he) hg (he := he)
theorem n_tupleOf (hm : X.mg "tuple" = none) (h : N X ω δ a fun ω1 c => ∃ ds, (c = .dat (.list ds) ∨ c = .dat (.tuple ds)) ∧ Φ ω1 (.dat (.tuple ds))) (hg : Gl X "tuple" := by rfl) (he : starEach [a] X.env = (false, eval a X.env) :: starEach [] X.env := by rfl) : N X ω δ (.Call (.Name "tuple" p1) [a] [] pos) Φ :=
  n_callTy call_tuple_of hm (na_cons (h.imp fun ω1 c ⟨ds, e1, f⟩ => na_nil fun vs σ H Q s o q => by
    obtain ⟨v, rfl, ov⟩ := cells1 o
    rcases e1 with rfl | rfl
    · cases ov with
      | lst hl r => exact ⟨_, _, rfl, .inl ⟨SqL.of (hid_some hl).2, fun l hn => q ω1 _ _ _ f (s.new hn) (kp_new s.own hn) (new_tup s.own hn r)⟩⟩
    · cases ov with
      | tup hl r => exact ⟨_, _, rfl, .inr ⟨sqt_hid hl, q ω1 _ _ H f s (Kp.refl _ _) (.tup hl r)⟩⟩) he) hg (he := he)
/-- what class a datum has -/
def tyD : PyData → String
  | .none => "NoneType"
  | .bool _ => "bool"
  | .int _ => "int"
  | .str _ => "str"
  | .list _ => "list"
  | .tuple _ => "tuple"
  | .dict _ => "dict"
theorem tyx_of {K : PySem.W.Frag} {O : List Addr} {H : Hp} {v : V} {d : PyData} (h : Rp K (hid O H) v d) : TyX K H v (.type (tyD d)) := by
  cases h with
  | non => exact .base .non
  | bl b => exact .base (.bl b)
  | int i => exact .base (.int i)
  | str y => exact .base (.str y)
  | lst hl _ => exact .base (.lst (hid_some hl).2)
  | tup hl _ =>
    rcases hl with (hl | ⟨o, hl⟩) | ⟨o, its, n, hk, hc, _⟩
    · exact .base (.tup (hid_some hl).2)
    · exact .fTuple (hid_some hl).2
    · exact .kTuple hk hc
  | dic hl _ => exact .base (.dK (hid_some hl).2)
inductive Ty where
  | int | bool | str | list | tuple | dict
def Ty.name : Ty → String
  | .int => "int"
  | .bool => "bool"
  | .str => "str"
  | .list => "list"
  | .tuple => "tuple"
  | .dict => "dict"
def isT : Ty → PyData → Bool
  | .int, .int _ => true
  | .int, .bool _ => true
  | .bool, .bool _ => true
  | .str, .str _ => true
  | .list, .list _ => true
  | .tuple, .tuple _ => true
  | .dict, .dict _ => true
  | _, _ => false
theorem kit_all (T : Ty) (d : PyData) : kitB (tyD d) T.name = some (isT T d) := by
  cases T <;> cases d <;> simp only [tyD, Ty.name, isT] <;> decide +kernel
theorem n_isi (T : Ty) {y : Str} (hm : X.mg "isinstance" = none) (hy : X.mg y = none) (h : N X ω δ a fun ω1 c => ∃ d, c = .dat d ∧ Φ ω1 (.dat (.bool (isT T d)))) (hv : bootBuiltins y = some (.type T.name) := by decide +kernel)
    (hg : Gl X "isinstance" := by rfl) (hgy : Gl X y := by rfl) (hn : y ≠ "__name__" := by decide) (hdb : (y == ("__debug__" : Str)) = false := by decide)
    (he : starEach [a, .Name y p2] X.env = (false, eval a X.env) :: starEach [.Name y p2] X.env := by rfl) (he2 : starEach [.Name y p2] X.env = (false, eval (.Name y p2) X.env) :: starEach [] X.env := by rfl)
    (hpl : (backTo pos (starEach [.Name y p2] X.env)).any (·.1) = false := by rfl) : N X ω δ (.Call (.Name "isinstance" p1) [a, .Name y p2] [] pos) Φ :=
  n_callB call_isi hm (na_cons (h.imp fun ω1 c ⟨d, e1, f⟩ => na_cons (n_lift (Φ := fun ω2 c2 => ω2 = ω1 ∧ c2 = .raw (.ty T.name)) (pe_bltn (v := .ty T.name) hgy hy hv rfl hn hdb) (fun σ H Q s q => q ω1 _ _ H ⟨rfl, rfl⟩ s (Kp.refl _ _) rfl) |>.imp fun ω2 c2 ⟨e2, e3⟩ => na_nil fun vs σ H Q s o q => by
    subst e1; subst e2; subst e3
    obtain ⟨v, w, rfl, ov, ow⟩ := cells2 o
    cases ow
    exact ⟨v, .ty T.name, .type (tyD d), .type T.name, _, rfl, .ty T.name, tyx_of ov, kit_ty (kit_all T d), q ω2 _ _ H f s (Kp.refl _ _) (Rp.bl _)⟩) he2) he) hg (he := he) (hpl := hpl)
/-- a constant of the module that is a datum -/
theorem n_globD {u : Value} {v : V} {d : PyData} (hm : X.mg x = some u) (hr : RelV v u) (hd : ∀ H, Rp X.K H v d) (h : Φ ω (.dat d)) (hg : Gl X x := by rfl) (hdb : (x == ("__debug__" : Str)) = false := by decide) : N X ω δ (.Name x pos) Φ :=
  n_lift (pe_glob hg hm hr hdb) fun σ H Q s q => q ω _ _ H h s (Kp.refl _ _) (hd _)
/-- x in a tuple or a list of flat things -/
def flatD : PyData → Bool
  | .none => true
  | .bool _ => true
  | .int _ => true
  | .str _ => true
  | _ => false
def valD : PyData → V
  | .none => .non
  | .bool b => .bl b
  | .int i => .int i
  | .str y => .str y
  | _ => .non
def inD (d : PyData) (ds : List PyData) : Bool := inV (valD d) (ds.map valD)
theorem flat_val {K : PySem.W.Frag} {H : Hp} {v : V} {d : PyData} (h : Rp K H v d) (hf : flatD d = true) : v = valD d ∧ flatV v = true := by
  cases h <;> first | exact ⟨rfl, rfl⟩ | cases hf
theorem flat_vals {K : PySem.W.Frag} {H : Hp} : ∀ {vs : List V} {ds : List PyData}, RpA K H vs ds → ds.all flatD = true → vs = ds.map valD ∧ vs.all flatV = true
  | _, _, .nil, _ => ⟨rfl, rfl⟩
  | _, _, .cons h r, hf => by
    rw [List.all_cons, Bool.and_eq_true] at hf
    obtain ⟨h1, h2⟩ := flat_val h hf.1
    obtain ⟨h3, h4⟩ := flat_vals r hf.2
    rw [List.map_cons, ← h1, ← h3]
    exact ⟨rfl, by rw [List.all_cons, h2, h4]; rfl⟩
theorem op2_in {c1 c2 : Cell} (h : ∃ d ds, c1 = .dat d ∧ (c2 = .dat (.tuple ds) ∨ c2 = .dat (.list ds)) ∧ flatD d = true ∧ ds.all flatD = true ∧ Φ ω (.dat (.bool (inD d ds)))) : Op2 X (rIn X.K false) ω δ c1 c2 Φ := fun x y σ H Q s o1 o2 q => by
  obtain ⟨d, ds, e1, e2, h1, h2, f⟩ := h
  subst e1
  obtain ⟨g1, g2⟩ := flat_val o1 h1
  rcases e2 with rfl | rfl
  · cases o2 with
    | tup hl r =>
      obtain ⟨g3, g4⟩ := flat_vals r h2
      exact ⟨_, _, rfl, .inr (sqt_hid hl), g2, g4, by rw [if_neg (by decide), g1, g3]; exact q ω _ _ H f s (Kp.refl _ _) (Rp.bl _)⟩
  · cases o2 with
    | lst hl r =>
      obtain ⟨g3, g4⟩ := flat_vals r h2
      exact ⟨_, _, rfl, .inl (SqL.of (hid_some hl).2), g2, g4, by rw [if_neg (by decide), g1, g3]; exact q ω _ _ H f s (Kp.refl _ _) (Rp.bl _)⟩
theorem n_in (hm : behindInMarks .In b = false) (h : N X ω δ a fun ω1 c1 => N X ω1 δ b fun ω2 c2 => ∃ d ds, c1 = .dat d ∧ (c2 = .dat (.tuple ds) ∨ c2 = .dat (.list ds)) ∧ flatD d = true ∧ ds.all flatD = true ∧ Φ ω2 (.dat (.bool (inD d ds)))) : N X ω δ (.Compare a [.In] [b] pos) Φ :=
  n_cop op_in_seq hm (h.imp fun _ _ h1 => h1.imp fun _ _ h2 => op2_in h2)
/-- a < b < c and their likes over ints -/
theorem n_chainI {op op' : CmpOp} {g g' : Int → Int → Bool} (ho : OpR X (compareOp op) (rI0 fun i j => .bl (g i j))) (ho' : OpR X (compareOp op') (rI0 fun i j => .bl (g' i j)))
    (h : N X ω δ a fun ω1 c1 => N X ω1 δ b fun ω2 c2 => ∃ i j, c1 = .dat (.int i) ∧ c2 = .dat (.int j) ∧ if g i j = true then N X ω2 δ c (fun ω3 c3 => ∃ k, c3 = .dat (.int k) ∧ Φ ω3 (.dat (.bool (g' j k)))) else Φ ω2 (.dat (.bool false)))
    (hl : lastMarks [op, op'] [b, c] = false := by rfl) : N X ω δ (.Compare a [op, op'] [b, c] pos) Φ :=
  n_lift (pe_chain ho ho' (WE.pe X a) (WE.pe X b) (WE.pe X c) hl) fun σ H Q s q => h σ H _ s fun ω1 c1 v1 H1 f1 s1 k1 o1 => f1 σ H1 _ s1 fun ω2 c2 v2 H2 ⟨i, j, e1, e2, f2⟩ s2 k2 o2 => by
    subst e1; subst e2
    cases int_of o1; cases int_of o2
    refine ⟨i, j, rfl, rfl, g i j, rfl, ?_⟩
    cases hg : g i j with
    | true =>
      rw [hg] at f2
      exact f2 σ H2 _ s2 fun ω3 c3 v3 H3 ⟨k, e3, f3⟩ s3 k3 o3 => by
        subst e3
        cases int_of o3
        exact ⟨j, k, rfl, rfl, q ω3 _ _ H3 f3 s3 (k1.trans (k2.trans k3)) (Rp.bl _)⟩
    | false =>
      rw [hg] at f2
      exact q ω2 _ _ H2 f2 s2 (k1.trans k2) (Rp.bl false)
end
end DL

namespace DL
open PySem PySem.Spec L2
/-! ## promises over data -/
abbrev Con := List Cell → Ow → (Ow → Cell → Prop) → Prop
def spD (K : PySem.W.Frag) (C : Con) : Sp := fun vs H Q _ => ∃ ω cs Φ, Cells K (dom ω) H vs cs ∧ OwnOk K ω H ∧ C cs ω Φ ∧ ∀ ω' c v H', Φ ω' c → OwnOk K ω' H' → Kp (dom ω) H (dom ω') H' → CellOk K (dom ω') H' v c → Q v H'
theorem Cells.len {K : PySem.W.Frag} {O : List Addr} {H : Hp} : ∀ {vs : List V} {cs : List Cell}, Cells K O H vs cs → vs.length = cs.length
  | _, _, .nil => rfl
  | _, _, .cons _ r => by simp [Cells.len r]
/-- a plain promise: data in, one datum out -/
def pureC (F : List PyData → Option PyData) : Con := fun cs ω Φ => ∃ ds d, cs = dats ds ∧ F ds = some d ∧ Φ ω (.dat d)
def startE (N : List Str) (cs : List Cell) : Env := cs.map some ++ List.replicate (N.length - cs.length) none
theorem env_blank {K : PySem.W.Frag} {O : List Addr} {H : Hp} : ∀ n : Nat, EnvOk K O H (List.replicate n none) (List.replicate n none)
  | 0 => trivial
  | n + 1 => ⟨fun x q => (nomatch q), env_blank n⟩
theorem env_start {K : PySem.W.Frag} {O : List Addr} {H : Hp} : ∀ {vs : List V} {cs : List Cell} (n : Nat), Cells K O H vs cs → EnvOk K O H (vs.map some ++ List.replicate n none) (cs.map some ++ List.replicate n none)
  | _, _, n, .nil => env_blank n
  | _, _, n, .cons h r => ⟨fun x q => by cases q; exact ⟨_, rfl, h⟩, env_start n r⟩
section
variable {P : Program} {w : World} {K : PySem.W.Frag} {mg : Str → Option Value} {base : Heap} {x qual : Str} {st : Stmt} {f : Addr} {fd : FuncData} {Nm ps : List Str} {k : Nat} {C : Con}
/-- a def of the program: its promise, by its body -/
theorem okD (F : Fun K x qual st f fd) (sc : FnScope Nm ps (defScope st)) (len : ∀ cs ω Φ, C cs ω Φ → cs.length = ps.length)
    (body : ∀ (X : Cx) (cdv : Value) (A : Around) (outer : List PySem.Env) (s : Shared) (H : Hp) (E : XK), X = (cxOf CX0 P w K mg base Nm qual (defScope st) f cdv A outer s H E).nox → Room k X.A → ∀ cs ω Φ, C cs ω Φ → B X ω (startE Nm cs) (defBody st) { nx := fun ω' _ => Φ ω' (.dat .none), rt := Φ }) :
    FnOk P w K mg base CX0 (k + 1) f fd ps (spD K C) := by
  refine F.ok sc (fun vs H Q E ⟨ω, cs, Φ, h1, _, h3, _⟩ => h1.len.trans (len _ _ _ h3)) fun cdv A outer s H vs Q E hr ⟨ω, cs, Φ, h1, h2, h3, h4⟩ => ?_
  refine ⟨_, WB.pss _ _, body _ cdv A outer s H E rfl hr cs ω Φ h3 (L2.start Nm vs) H _ ⟨?_, h2⟩ ⟨fun ω' δ' σ' H' q s' k' => h4 ω' _ _ H' q s'.own k' Rp.non, fun ω' c v H' q s' k' o => h4 ω' c v H' q s' k' o, fun _ _ _ _ z => z.elim, fun _ _ _ _ z => z.elim⟩⟩
  unfold L2.start startE
  rw [h1.len]
  exact env_start _ h1
end
/-- a promise that a def keeps where nothing is being shown (repr is free to be asked) -/
structure FnG (P : Program) (w : World) (K : PySem.W.Frag) (mg : Str → Option Value) (base : Heap) (k : Nat) (f : Addr) (fd : FuncData) (ps : List Str) (sp : Sp) : Prop where
  len : ∀ vs H Q E, sp vs H Q E → vs.length = ps.length
  run : ∀ (A : Around) (outer : List PySem.Env) (s : Shared) (H : Hp) (args : Args) (us : List Value) (vs : List V) (Q : VK) (E : XK), A.guards = some [] → Room k A → Env0 P w K mg base A outer s H → BindsTo s fd args (ps.zip us) → Vals vs us → sp vs H Q E →
    codeAny (model P w) A (.call (.ref f) args) (CR CX0 outer P w H s Q E) s
theorem FnG.of {P : Program} {w : World} {K : PySem.W.Frag} {mg : Str → Option Value} {base : Heap} {k : Nat} {f : Addr} {fd : FuncData} {ps : List Str} {sp : Sp} (h : FnOk P w K mg base CX0 k f fd ps sp) : FnG P w K mg base k f fd ps sp :=
  ⟨h.len, fun A outer s H args us vs Q E _ => h.run A outer s H args us vs Q E⟩
theorem FnG.mono {P : Program} {w : World} {K : PySem.W.Frag} {mg : Str → Option Value} {base : Heap} {j k : Nat} {f : Addr} {fd : FuncData} {ps : List Str} {sp : Sp} (h : FnG P w K mg base j f fd ps sp) (l : j ≤ k) : FnG P w K mg base k f fd ps sp :=
  ⟨h.len, fun A outer s H args us vs Q E g r => h.run A outer s H args us vs Q E g (r.mono l)⟩
section
variable {P : Program} {w : World} {K : PySem.W.Frag} {mg : Str → Option Value} {base : Heap} {x qual : Str} {st : Stmt} {f : Addr} {fd : FuncData} {Nm ps : List Str} {k : Nat} {C : Con}
theorem okG (F : Fun K x qual st f fd) (sc : FnScope Nm ps (defScope st)) (len : ∀ cs ω Φ, C cs ω Φ → cs.length = ps.length)
    (body : ∀ (X : Cx) (cdv : Value) (A : Around) (outer : List PySem.Env) (s : Shared) (H : Hp) (E : XK), X = (cxOf CX0 P w K mg base Nm qual (defScope st) f cdv A outer s H E).nox → X.A.guards = some [] → Room k X.A → ∀ cs ω Φ, C cs ω Φ → B X ω (startE Nm cs) (defBody st) { nx := fun ω' _ => Φ ω' (.dat .none), rt := Φ }) :
    FnG P w K mg base (k + 1) f fd ps (spD K C) := by
  have ln : ∀ vs H Q E, spD K C vs H Q E → vs.length = ps.length := fun vs H Q E ⟨ω, cs, Φ, h1, _, h3, _⟩ => h1.len.trans (len _ _ _ h3)
  obtain ⟨oc, od, kV, doc, pm, an, cdv, ct, osl, rfl, lk, hcd⟩ := F.ex
  refine ⟨ln, fun A outer s H args us vs Q E hgd hroom en hbi hv hs => ?_⟩
  have hlen := ln _ _ _ _ hs
  have inK : K.In s.heap := en.mod.kin.keeps fun b o z => (en.bs b o z).1
  have nolim : s.heap.NoLimit := en.mod.nolimit.keeps fun b o z => (en.bs b o z).1
  have kinds : ∀ y ∈ ps.zip us, (defScope st).names.lookup y.1 = some .local ∨ ((defScope st).names.lookup y.1 = some .cell ∧ ((cellsFrom (s.heap.objs.size + 1) (defScope st).names []).lookup y.1).isSome = true) := by
    rintro ⟨n, v⟩ hy
    exact (sc.par n (List.of_mem_zip hy).1).imp id fun z => ⟨z, PySem.W.cellsFrom_some _ _ _ (.inl z)⟩
  refine codeAny_call_function hroom.depth (inK _ _ lk) rfl sc.co sc.gen rfl (PySem.W.codeRec_of inK hcd) (hbi _ _ _ _ ?_)
  refine wpAny_newFunctionEnv_cells sc.kind kinds ?_
  rintro env rfl s1 inC
  refine ⟨nolim.keeps inC.toInCall.keep, codeAny_func ?_⟩
  obtain ⟨ω, cs, Φ, h1, h2, h3, h4⟩ := hs
  have I := inv_start (CX := CX0) (P := P) (mg := mg) (base := base) (N := Nm) (E := E) sc hroom.hd en hlen hv inC
  have hb := body _ cdv A outer s H E rfl hgd (hroom.deeper _) cs ω Φ h3 (L2.start Nm vs) H { nx := fun _ H' => Q .non H', rt := Q }
    ⟨by unfold L2.start startE; rw [h1.len]; exact env_start _ h1, h2⟩ ⟨fun ω' δ' σ' H' q s' k' => h4 ω' _ _ H' q s'.own k' Rp.non, fun ω' c v H' q s' k' o => h4 ω' c v H' q s' k' o, fun _ _ _ _ z => z.elim, fun _ _ _ _ z => z.elim⟩
  refine wpAny_mono (hb [] s1 (I.wish _)) (fun fl s' z => ?_) fun e s' z => z.elim
  cases fl with
  | ret u =>
    obtain ⟨v, σ', H', J, rv, q⟩ := z
    exact ⟨v, H', J.os, J.bare, J.base, J.hok, rv, q⟩
  | next =>
    obtain ⟨σ', H', J, q⟩ := z
    exact ⟨.non, H', J.os, J.bare, J.base, J.hok, rfl, q⟩
  | brk =>
    obtain ⟨_, _, _, q⟩ := z
    exact q.elim
  | cont =>
    obtain ⟨_, _, _, q⟩ := z
    exact q.elim
end
section
variable {X : Cx} {ω : Ow} {δ : Env} {e a b c : Expr} {rest es : List Expr} {Φ : Ow → Cell → Prop} {pos p1 : Pos} {x : Str} {k : Nat} {f : Addr} {fd : FuncData} {ps : List Str} {C : Con}
/-- f(e, ..) of a def with a promise over data -/
theorem n_call (G : FnOk X.prog X.w X.K X.mg X.base CX0 k f fd ps (spD X.K C)) (hr : Room k X.A) (hm : X.mg x = some (.ref f)) (hk : PySem.W.keepIn X.K (.ref f) = true) (hb : Binds X.K fd ps []) (h : NA X ω δ (e :: es) fun ω1 cs => C cs ω1 Φ) (hg : Gl X x := by rfl)
    (hdb : (x == ("__debug__" : Str)) = false := by decide) (he : starEach (e :: es) X.env = (false, eval e X.env) :: starEach es X.env := by rfl) (hpl : (backTo pos (starEach es X.env)).any (·.1) = false := by rfl) : N X ω δ (.Call (.Name x p1) (e :: es) [] pos) Φ :=
  n_lift (pe_call G hr hg hm hk hb .nil (pass0 (X := X)) (WA.pa X _) hdb he hpl) fun σ H Q s q => h σ H _ s fun ω1 cs vs H1 f1 s1 k1 o1 => by
    refine ⟨ω1, cs, Φ, by rw [List.append_nil]; exact o1, s1.own, f1, fun ω2 c v H2 f2 s2 k2 o2 => q ω2 c v H2 f2 ⟨s1.env.mono k2, s2⟩ (k1.trans k2) o2⟩
/-- the same where the def wants that nothing is being shown -/
theorem n_callG (G : FnG X.prog X.w X.K X.mg X.base k f fd ps (spD X.K C)) (hgd : X.A.guards = some []) (hr : Room k X.A) (hm : X.mg x = some (.ref f)) (hk : PySem.W.keepIn X.K (.ref f) = true) (hb : Binds X.K fd ps []) (h : NA X ω δ (e :: es) fun ω1 cs => C cs ω1 Φ) (hg : Gl X x := by rfl)
    (hdb : (x == ("__debug__" : Str)) = false := by decide) (he : starEach (e :: es) X.env = (false, eval e X.env) :: starEach es X.env := by rfl) (hpl : (backTo pos (starEach es X.env)).any (·.1) = false := by rfl) : N X ω δ (.Call (.Name x p1) (e :: es) [] pos) Φ := by
  refine fun σ H Q s q pins s0 I => ?_
  refine wpAny_Call_Name_kw (ld_glob I hg hm ?_ hdb)
  refine PySem.W.callWith_K (h₀ := X.base) I.ok.mod.kin hk (thn (h σ H _ s (fun ω1 cs vs H1 f1 s1 k1 o1 => show (fun vs H1 => ∀ us pins s', Inv X pins σ H1 s' → Vals vs us → wpAny (model X.prog X.w) X.A (call (.ref f) us) (EP X pins σ Q) X.xe s') vs H1 from ?_) pos pins s0 I) ?_) he hpl
  · intro us pins' s' I' rv
    have hsp : spD X.K C vs H1 Q (fun _ _ _ => False) := ⟨ω1, cs, Φ, o1, s1.own, f1, fun ω2 c v H2 f2 s2 k2 o2 => q ω2 c v H2 f2 ⟨s1.env.mono k2, s2⟩ (k1.trans k2) o2⟩
    have hl : (us ++ []).length = ps.length := by rw [List.append_nil, ← rv.length]; exact G.len _ _ _ _ hsp
    have hbs := hb s' us I'.kIn hl
    rw [List.append_nil] at hbs
    refine wpAny_call (codeAny_mono (G.run X.A X.stack s' H1 ⟨us, []⟩ us vs Q _ hgd hr I'.env0 hbs rv hsp) fun r s'' hq => ?_)
    cases r with
    | error z => exact hq.elim
    | ok fl =>
      cases fl with
      | ret u => exact I'.after hq
      | next => exact hq.elim
      | brk => exact hq.elim
      | cont => exact hq.elim
  · rintro us s1 ⟨vs, H1, I1, rv, q1⟩
    exact ⟨I1.kIn, q1 us pins s1 I1 rv⟩
end
/-! ## repr of data -/
section
variable {X : Cx} {pins : List (Addr × Obj)} {σ : St} {H : Hp} {s : Shared}
theorem notMods (I : Inv X pins σ H s) (hm : ∃ m, X.base.Ns sysModules m) {a : Addr} {o : Obj} (ha : s.heap.get? a = some o) (hd : ∀ es ep, o.data ≠ .dict es ep) : a ≠ sysModules := by
  intro e
  subst e
  obtain ⟨m, om, es, ep, h1, h2, _⟩ := hm
  have := I.bk _ _ h1
  rw [ha] at this
  cases this
  exact hd _ _ h2
theorem key_reads {k : Key} {u : Value} (h : keyIs k u = true) (hp : Heap) : Reads hp u (keyD k) [] := by
  rcases keyIs_shape h with ⟨i, t, rfl, rfl⟩ | ⟨y, t, rfl, rfl⟩
  · exact .int i t
  · exact .str y t
theorem rp_reads (I : Inv X pins σ H s) (hm : ∃ m, X.base.Ns sysModules m) : ∀ n, (∀ d : PyData, sizeOf d < n → ∀ v u, Rp X.K H v d → RelV v u → ∃ as, Reads s.heap u d as ∧ sysModules ∉ as) ∧ (∀ ds : List PyData, sizeOf ds < n → ∀ vs us, RpA X.K H vs ds → Vals vs us → ∃ as, ReadsAll s.heap us ds as ∧ sysModules ∉ as) ∧
    (∀ ds : List (PyData × PyData), sizeOf ds < n → ∀ kvs vs es, RpK X.K H kvs ds → KV kvs vs → Pairs (mixKind X.prog X.w) es vs → ∃ bs, ReadsAll s.heap (es.map (·.key)) (ds.map (·.1)) [] ∧ ReadsAll s.heap (es.map (·.val)) (ds.map (·.2)) bs ∧ sysModules ∉ bs) := by
  intro n
  induction n with
  | zero => exact ⟨fun d h => by omega, fun d h => by omega, fun d h => by omega⟩
  | succ n ih =>
    refine ⟨fun d hz v u r rv => ?_, fun ds hz vs us r rv => ?_, fun ds hz kvs vs es r kv pr => ?_⟩
    · cases r with
      | non => cases rv; exact ⟨_, .none, by simp⟩
      | bl b => cases rv; exact ⟨_, .bool b, by simp⟩
      | int i => obtain ⟨t, rfl⟩ := rv; exact ⟨_, .int i t, by simp⟩
      | str y => obtain ⟨t, rfl⟩ := rv; exact ⟨_, .str y t, by simp⟩
      | @lst a xs ds hl hr =>
        cases rv
        obtain ⟨_, its, m, rv2, ho⟩ := I.hok _ _ hl
        obtain ⟨as, h1, h2⟩ := ih.2.1 ds (by simp at hz; omega) xs its hr rv2
        refine ⟨_, .list ho rfl rfl (by simpa using h1), ?_⟩
        intro q
        rcases List.mem_cons.mp q with q | q
        · exact notMods I hm ho (fun es ep z => by cases z) q.symm
        · exact h2 q
      | @tup a xs ds hl hr =>
        cases rv
        obtain ⟨its, rv2, ⟨o, ho, hc, m, hd⟩, _⟩ := I.tuple hl
        obtain ⟨as, h1, h2⟩ := ih.2.1 ds (by simp at hz; omega) xs its hr rv2
        exact ⟨_, .tuple ho hc hd (by simpa using h1), h2⟩
      | @dic a kvs ds hl hr =>
        cases rv
        obtain ⟨_, hne, vs, kv, o, es, ep, ho, hx, hd, _, pr, _⟩ := I.hok _ _ hl
        obtain ⟨bs, h1, h2, h3⟩ := ih.2.2 ds (by simp at hz; omega) kvs vs es.toList hr kv pr
        refine ⟨_, .dict ho hx.1 hd h1 h2, ?_⟩
        intro q
        rcases List.mem_append.mp q with q | q
        · rw [List.mem_singleton.mp q] at hne; simp at hne
        · exact h3 q
    · cases r with
      | nil => cases rv; exact ⟨_, .nil, by simp⟩
      | @cons v1 vs1 d1 ds1 h1 h2 =>
        cases rv with
        | cons r1 r2 =>
          obtain ⟨as, q1, q2⟩ := ih.1 d1 (by simp at hz; omega) _ _ h1 r1
          obtain ⟨bs, q3, q4⟩ := ih.2.1 ds1 (by simp at hz; omega) _ _ h2 r2
          exact ⟨_, .cons q1 q3, fun q => (List.mem_append.mp q).elim q2 q4⟩
    · cases r with
      | nil =>
        cases kv
        cases pr
        exact ⟨_, .nil, .nil, by simp⟩
      | @cons k1 v1 r1 d1 ds1 h1 h2 =>
        cases kv with
        | cons kv1 kv2 =>
          cases pr with
          | cons p1 p2 p3 =>
            obtain ⟨bs, q1, q2, q3⟩ := ih.2.2 ds1 (by simp at hz; omega) _ _ _ h2 kv2 p3
            obtain ⟨as, q4, q5⟩ := ih.1 d1 (by simp at hz; omega) _ _ h1 kv1.2
            refine ⟨as ++ bs, ?_, ?_, fun q => (List.mem_append.mp q).elim q5 q3⟩
            · have e1 : k1 = _ := kv1.1
              rw [← e1] at p1
              have hk := key_reads p1 s.heap
              exact ReadsAll.cons (as := []) (bs := []) hk q1
            · rw [List.map_cons, List.map_cons, p2]
              exact .cons q4 q2
theorem rp_read1 (I : Inv X pins σ H s) (hm : ∃ m, X.base.Ns sysModules m) {d : PyData} {v : V} {u : Value} (r : Rp X.K H v d) (rv : RelV v u) : ∃ as, Reads s.heap u d as ∧ sysModules ∉ as := (rp_reads I hm _).1 d (Nat.lt_succ_self _) v u r rv
end
end DL

namespace DL
open PySem PySem.Spec L2
/-! ## repr -/
structure Shows (d : PyData) : Prop where
  ok : d.showable = true
  dp : d.depth ≤ 80
  sz : d.shown.length ≤ sizeLine
theorem call_reprD {X : Cx} (hgd : X.A.guards = some []) (hsm : ∃ m, X.base.Ns sysModules m) (hu : X.A.units + 100 < cLine) : CallR X (.builtin "repr") (fun xs H Q => ∃ v d, xs = [v] ∧ Rp X.K H v d ∧ Shows d ∧ Q (.str d.shown) H) := by
  intro pins s σ H xs us Q I rvs h
  obtain ⟨v, d, rfl, r, sh, q⟩ := h
  obtain ⟨u, rfl, rv⟩ := vals1 rvs
  have via : ∀ a, u = .ref a → wpAny (model X.prog X.w) X.A (call (.builtin "repr") [u]) (EP X pins σ Q) X.xe s := fun a e => by
    obtain ⟨as, r1, r2⟩ := rp_read1 I hsm r rv
    subst e
    have := sh.dp
    exact repr_of_reads' r1 sh.ok (fun _ => r2) hgd (by omega) (fun _ _ z => z) (fun h' u tk hk => ⟨.str d.shown, H, I.kept hk, ⟨_, rfl⟩, q⟩) sh.sz
  cases r with
  | non => cases rv; exact PySem.P.repr_of_none ⟨.str (Str.ofString "None"), H, I.tok _, ⟨_, rfl⟩, q⟩
  | bl b =>
    cases rv
    refine PySem.P.repr_of_bool ⟨.str (if b = true then Str.ofString "True" else Str.ofString "False"), H, I.tok _, ⟨_, rfl⟩, ?_⟩
    cases b <;> exact q
  | int i =>
    obtain ⟨t, rfl⟩ := rv
    exact PySem.P.repr_of_int (by simpa [PyData.showable] using sh.ok) ⟨.str (Str.ofString (toString i)), H, I.tok _, ⟨_, rfl⟩, q⟩
  | str y =>
    obtain ⟨t, rfl⟩ := rv
    exact PySem.P.repr_of_str ⟨.str (reprText y), H, I.tok _, ⟨_, rfl⟩, q⟩ sh.sz
  | lst _ _ => cases rv; exact via _ rfl
  | tup _ _ => cases rv; exact via _ rfl
  | dic _ _ => cases rv; exact via _ rfl
section
variable {X : Cx} {ω : Ow} {δ : Env} {e a b c : Expr} {rest es : List Expr} {Φ : Ow → Cell → Prop} {pos p1 p2 p3 : Pos} {x : Str}
theorem n_repr (hgd : X.A.guards = some []) (hsm : ∃ m, X.base.Ns sysModules m) (hu : X.A.units + 100 < cLine) (hm : X.mg "repr" = none) (h : N X ω δ a fun ω1 c => ∃ d, c = .dat d ∧ Shows d ∧ Φ ω1 (.dat (.str d.shown))) (hg : Gl X "repr" := by rfl) (he : starEach [a] X.env = (false, eval a X.env) :: starEach [] X.env := by rfl) : N X ω δ (.Call (.Name "repr" p1) [a] [] pos) Φ :=
  n_callB (call_reprD hgd hsm hu) hm (na_cons (h.imp fun ω1 c ⟨d, e1, sh, f⟩ => na_nil fun vs σ H Q s o q => by
    subst e1
    obtain ⟨v, rfl, ov⟩ := cells1 o
    exact ⟨v, d, rfl, Rp.mono hid_same ov, sh, q ω1 _ _ H f s (Kp.refl _ _) (Rp.str _)⟩) he) hg (he := he)
/-! ## slices -/
def WO (X : Cx) : Option Expr → TO
  | none => tNoPart
  | some e => tPart (WE X e)
theorem WO.po (X : Cx) : ∀ o, PO X o (WO X o)
  | none => po_none
  | some e => po_some (WE.pe X e)
def NO (X : Cx) (ω : Ow) (δ : Env) (o : Option Expr) (Φ : Ow → Option Int → Prop) : Prop := match o with
  | none => Φ ω none
  | some e => N X ω δ e fun ω1 c => ∃ i, c = .dat (.int i) ∧ Φ ω1 (some i)
theorem NO.run {o : Option Expr} {Ψ : Ow → Option Int → Prop} (h : NO X ω δ o Ψ) : ∀ σ H Q, StOk X.K ω δ σ H → (∀ ω' i H', Ψ ω' i → StOk X.K ω' δ σ H' → Kp (dom ω) H (dom ω') H' → Q i H') → WO X o σ H Q := by
  cases o with
  | none => exact fun σ H Q s q => q ω none H h s (Kp.refl _ _)
  | some e =>
    intro σ H Q s q
    refine h σ H _ s fun ω1 c v H1 ⟨i, e1, f1⟩ s1 k1 o1 => ?_
    subst e1
    cases int_of o1
    exact ⟨i, rfl, q ω1 _ H1 f1 s1 k1⟩
def cutD {α : Type} (xs : List α) (lo hi : Option Int) : List α := (xs.drop (HT.sIx xs.length 0 lo)).take (HT.sIx xs.length xs.length hi - HT.sIx xs.length 0 lo)
theorem cut_rp {K : PySem.W.Frag} {H : Hp} {xs : List V} {ds : List PyData} (r : RpA K H xs ds) (lo hi : Option Int) : RpA K H (cutV xs lo hi) (cutD ds lo hi) := by
  unfold cutV cutD
  rw [r.len]
  exact (r.drop _).take _
theorem cut_ints (ns : List Int) (lo hi : Option Int) : cutV (ns.map V.int) lo hi = (cutD ns lo hi).map V.int := by
  unfold cutV cutD
  rw [List.length_map, List.map_take, List.map_drop]
theorem n_slL {lo hi : Option Expr} (h : N X ω δ a fun ω1 c => NO X ω1 δ lo fun ω2 i => NO X ω2 δ hi fun ω3 j => ∃ ds, c = .dat (.list ds) ∧ Φ ω3 (.dat (.list (cutD ds i j)))) : N X ω δ (.Subscript a (.Slice lo hi none p2) pos) Φ :=
  n_lift (pe_slice sl_list (WE.pe X a) (WO.po X lo) (WO.po X hi)) fun σ H Q s q => h σ H _ s fun ω1 c v H1 f1 s1 k1 o1 => f1.run σ H1 _ s1 fun ω2 i H2 f2 s2 k2 => f2.run σ H2 _ s2 fun ω3 j H3 ⟨ds, e1, f3⟩ s3 k3 => by
    subst e1
    cases (o1.mono (k2.trans k3)) with
    | lst hl r => exact ⟨_, _, rfl, SqL.of (hid_some hl).2, fun p hp => q ω3 _ _ _ f3 (s3.new hp) (k1.trans (k2.trans (k3.trans (kp_new s3.own hp)))) (new_lst s3.own hp (cut_rp r i j))⟩
theorem n_slS {lo hi : Option Expr} (h : N X ω δ a fun ω1 c => NO X ω1 δ lo fun ω2 i => NO X ω2 δ hi fun ω3 j => ∃ ns, c = .scr ns ∧ Φ ω3 (.dat (.list ((cutD ns i j).map .int)))) : N X ω δ (.Subscript a (.Slice lo hi none p2) pos) Φ :=
  n_lift (pe_slice sl_list (WE.pe X a) (WO.po X lo) (WO.po X hi)) fun σ H Q s q => h σ H _ s fun ω1 c v H1 f1 s1 k1 o1 => f1.run σ H1 _ s1 fun ω2 i H2 f2 s2 k2 => f2.run σ H2 _ s2 fun ω3 j H3 ⟨ns, e1, f3⟩ s3 k3 => by
    subst e1
    obtain ⟨l, rfl, hl⟩ := o1.mono (k2.trans k3)
    refine ⟨_, _, rfl, sql_hid hl, fun p hp => q ω3 _ _ _ f3 (s3.new hp) (k1.trans (k2.trans (k3.trans (kp_new s3.own hp)))) (new_lst s3.own hp ?_)⟩
    rw [cut_ints]
    exact RpA.ints _
theorem n_slT {lo hi : Option Expr} (h : N X ω δ a fun ω1 c => NO X ω1 δ lo fun ω2 i => NO X ω2 δ hi fun ω3 j => ∃ ds, c = .dat (.tuple ds) ∧ Φ ω3 (.dat (.tuple (cutD ds i j)))) : N X ω δ (.Subscript a (.Slice lo hi none p2) pos) Φ :=
  n_lift (pe_slice sl_tupA (WE.pe X a) (WO.po X lo) (WO.po X hi)) fun σ H Q s q => h σ H _ s fun ω1 c v H1 f1 s1 k1 o1 => f1.run σ H1 _ s1 fun ω2 i H2 f2 s2 k2 => f2.run σ H2 _ s2 fun ω3 j H3 ⟨ds, e1, f3⟩ s3 k3 => by
    subst e1
    have o3 := o1.mono (k2.trans k3)
    cases o3 with
    | tup hl r =>
      refine ⟨_, _, rfl, sqt_hid hl, fun w => ?_, fun _ p hp => q ω3 _ _ _ f3 (s3.new hp) (k1.trans (k2.trans (k3.trans (kp_new s3.own hp)))) (new_tup s3.own hp (cut_rp r i j))⟩
      refine q ω3 _ _ _ f3 s3 (k1.trans (k2.trans k3)) ?_
      have e : cutD ds i j = ds := by
        unfold cutD
        rw [← r.len, w.1, w.2, List.drop_zero, Nat.sub_zero, r.len, List.take_length]
      rw [e]
      exact .tup hl r
/-! ## joined, repeated -/
theorem n_catL (h : N X ω δ a fun ω1 c1 => N X ω1 δ b fun ω2 c2 => ∃ d1 d2, c1 = .dat (.list d1) ∧ c2 = .dat (.list d2) ∧ d1.length + d2.length ≤ 100000 ∧ Φ ω2 (.dat (.list (d1 ++ d2)))) : N X ω δ (.BinOp a .Add b pos) Φ :=
  n_bop op_cat (h.imp fun _ _ h1 => h1.imp fun ω2 _ ⟨d1, d2, e1, e2, z, f⟩ x y σ H Q s o1 o2 q => by
    subst e1; subst e2
    cases o1 with
    | lst h1 r1 =>
      cases o2 with
      | lst h2 r2 =>
        exact ⟨_, _, _, _, rfl, rfl, (hid_some h1).2, (hid_some h2).2, by rw [r1.len, r2.len]; exact Nat.le_trans z (by decide), fun p hp => q ω2 _ _ _ f (s.new hp) (kp_new s.own hp) (new_lst s.own hp (r1.append r2))⟩)
theorem n_catT (h : N X ω δ a fun ω1 c1 => N X ω1 δ b fun ω2 c2 => ∃ d1 d2, c1 = .dat (.tuple d1) ∧ c2 = .dat (.tuple d2) ∧ d1.length + d2.length ≤ 100000 ∧ Φ ω2 (.dat (.tuple (d1 ++ d2)))) : N X ω δ (.BinOp a .Add b pos) Φ :=
  n_bop op_catA (h.imp fun _ _ h1 => h1.imp fun ω2 _ ⟨d1, d2, e1, e2, z, f⟩ x y σ H Q s o1 o2 q => by
    subst e1; subst e2
    cases o1 with
    | tup h1 r1 =>
      cases o2 with
      | tup h2 r2 =>
        refine ⟨_, _, _, _, rfl, rfl, sqt_hid h1, sqt_hid h2, by rw [r1.len, r2.len]; exact Nat.le_trans z (by decide), fun w => ?_, fun _ w => ?_, fun _ _ p hp => q ω2 _ _ _ f (s.new hp) (kp_new s.own hp) (new_tup s.own hp (r1.append r2))⟩
        · subst w
          cases r1
          exact q ω2 _ _ H f s (Kp.refl _ _) (.tup h2 r2)
        · subst w
          cases r2
          rw [List.append_nil] at f
          exact q ω2 _ _ H f s (Kp.refl _ _) (.tup h1 r1))
theorem rep_rp {K : PySem.W.Frag} {H : Hp} {xs : List V} {ds : List PyData} (r : RpA K H xs ds) : ∀ n, RpA K H (List.replicate n xs).flatten (List.replicate n ds).flatten
  | 0 => .nil
  | n + 1 => by rw [List.replicate_succ, List.replicate_succ, List.flatten_cons, List.flatten_cons]; exact r.append (rep_rp r n)
theorem n_repL (h : N X ω δ a fun ω1 c1 => N X ω1 δ b fun ω2 c2 => ∃ ds k, c1 = .dat (.list ds) ∧ c2 = .dat (.int k) ∧ -100000 ≤ k ∧ k ≤ 100000 ∧ ds.length * k.toNat ≤ 100000 ∧ Φ ω2 (.dat (.list (List.replicate k.toNat ds).flatten))) : N X ω δ (.BinOp a .Mult b pos) Φ :=
  n_bop op_rep (h.imp fun _ _ h1 => h1.imp fun ω2 _ ⟨ds, k, e1, e2, z1, z2, z3, f⟩ x y σ H Q s o1 o2 q => by
    subst e1; subst e2
    cases int_of o2
    cases o1 with
    | lst h1 r1 => exact ⟨_, _, _, rfl, rfl, (hid_some h1).2, by omega, by omega, by rw [r1.len]; exact Nat.le_trans z3 (by decide), fun p hp => q ω2 _ _ _ f (s.new hp) (kp_new s.own hp) (new_lst s.own hp (rep_rp r1 _))⟩)
theorem n_addS (h : N X ω δ a fun ω1 c1 => N X ω1 δ b fun ω2 c2 => ∃ y z, c1 = .dat (.str y) ∧ c2 = .dat (.str z) ∧ y.length + z.length ≤ sizeLine ∧ Φ ω2 (.dat (.str (y ++ z)))) : N X ω δ (.BinOp a .Add b pos) Φ :=
  n_bop op_add_str (h.imp fun _ _ h1 => h1.imp fun ω2 _ ⟨y, z, e1, e2, zz, f⟩ v w σ H Q s o1 o2 q => by
    subst e1; subst e2
    cases str_of o1; cases str_of o2
    exact ⟨y, z, rfl, rfl, zz, q ω2 _ _ H f s (Kp.refl _ _) (Rp.str _)⟩)
/-- an owned list, read at a place -/
theorem n_ixO (hp : PlainIx b) (i n : Nat) {p : Addr} (hd : δ[i]? = some (some (.raw (.ref p)))) (h : N X ω δ b fun ω2 c2 => ∃ ds k d, ω2[n]? = some (p, lstP ds) ∧ c2 = .dat (.int k) ∧ atI ds k = some d ∧ Φ ω2 (.dat d)) (hN : X.N[i]? = some x := by rfl)
    (hv : Vis X.env.scope x := by first | exact Or.inl rfl | exact Or.inr (Or.inl rfl) | exact Or.inr (Or.inr rfl)) (hg : (x == ("__debug__" : Str)) = false := by decide) (hcd : (x == ("__classdict__" : Str)) = false := by decide) : N X ω δ (.Subscript (.Name x p1) b pos) Φ :=
  n_lift (pe_ix ix_list (pe_var hN hv hg hcd) (WE.pe X b) hp) fun σ H Q s q => by
    obtain ⟨v, h1, h2⟩ := s.get hd
    cases h2
    refine ⟨_, h1, h σ H _ s fun ω2 c v H2 ⟨ds, k, d, hw, e1, hi, f⟩ s2 k2 o2 => ?_⟩
    subst e1
    cases int_of o2
    obtain ⟨u, g1, vs, rfl, g2⟩ := s2.own.at_ p _ (List.mem_of_getElem? hw)
    obtain ⟨v2, g3, g4⟩ := atI_rp g2 hi
    exact ⟨p, vs, k, v2, rfl, rfl, SqL.of g1, g3, q ω2 _ _ H2 f s2 k2 g4⟩
theorem n_lenO (i n : Nat) {p : Addr} {ds : List PyData} (hm : X.mg "len" = none) (hd : δ[i]? = some (some (.raw (.ref p)))) (hw : ω[n]? = some (p, lstP ds)) (h : Φ ω (.dat (.int (ds.length : Int)))) (hN : X.N[i]? = some x := by rfl)
    (hv : Vis X.env.scope x := by first | exact Or.inl rfl | exact Or.inr (Or.inl rfl) | exact Or.inr (Or.inr rfl)) (hg : (x == ("__debug__" : Str)) = false := by decide) (hcd : (x == ("__classdict__" : Str)) = false := by decide)
    (hgl : Gl X "len" := by rfl) : N X ω δ (.Call (.Name "len" p1) [.Name x p2] [] pos) Φ :=
  n_lift (pe_callB call_len_seq hgl hm (by decide +kernel) (pa_cons (pe_var hN hv hg hcd) pa_nil)) fun σ H Q s q => by
    obtain ⟨v, h1, h2⟩ := s.get hd
    cases h2
    obtain ⟨u, g1, vs, rfl, g2⟩ := s.own.at_ p _ (List.mem_of_getElem? hw)
    exact ⟨_, h1, _, _, rfl, .inl (SqL.of g1), by rw [g2.len]; exact q ω _ _ H h s (Kp.refl _ _) (Rp.int _)⟩
end
section
variable {X : Cx} {ω : Ow} {δ : Env} {e a b c : Expr} {st : Stmt} {rest body orelse : List Stmt} {E : En} {pos p1 p2 p3 : Pos} {x : Str}
theorem atI_ix {α : Type} {ds : List α} {k : Int} {d : α} (h : atI ds k = some d) : ∃ j, ixN ds.length k = some j ∧ ds[j]? = some d := by
  unfold atI at h
  cases q : ixN ds.length k with
  | none => rw [q] at h; cases h
  | some j => rw [q] at h; exact ⟨j, rfl, h⟩

end
end DL

namespace DL
open PySem PySem.Spec L2
section
variable {X : Cx} {ω : Ow} {δ : Env} {e a b c : Expr} {st : Stmt} {rest body orelse : List Stmt} {E : En} {pos p1 p2 p3 : Pos} {x : Str}
/-- o[k] = e, o an owned list -/
theorem s_setO (i n : Nat) {p : Addr} (hd : δ[i]? = some (some (.raw (.ref p)))) (h : N X ω δ e fun ω1 c1 => N X ω1 δ b fun ω2 c2 => ∃ ds d k j, ω2[n]? = some (p, lstP ds) ∧ c1 = .dat d ∧ c2 = .dat (.int k) ∧ ixN ds.length k = some j ∧ E.nx (ω2.set n (p, lstP (ds.set j d))) δ) (hN : X.N[i]? = some x := by rfl)
    (hs : swapsWithSole [.Subscript (.Name x p1) b p2] e pos.line X.env = pure false := by rfl) (hw : swappedStores [.Subscript (.Name x p1) b p2] e X.env = pure none := by rfl) (h1 : (assignEach [.Subscript (.Name x p1) b p2] X.env).map (·.2) = [assign (.Subscript (.Name x p1) b p2) X.env] := by rfl)
    (ha : ∀ v, assign (.Subscript (.Name x p1) b p2) X.env v = (do
      let ov ← holding [v] (eval (.Name x p1) X.env)
      let iv ← holding [v, ov] (eval b X.env)
      standAt p2
      holding [v, ov, iv] (setItem ov iv v)
      release [v, ov, iv] []) := by intro _; rfl)
    (hv : Vis X.env.scope x := by first | exact Or.inl rfl | exact Or.inr (Or.inl rfl) | exact Or.inr (Or.inr rfl)) (hg : (x == ("__debug__" : Str)) = false := by decide) (hcd : (x == ("__classdict__" : Str)) = false := by decide) : S X ω δ (.Assign [.Subscript (.Name x p1) b p2] e pos) E := fun σ H D s f =>
  WS.of (ps_asg (WE.pe X e) (pg_sub (pe_var hN hv hg hcd) (WE.pe X b) set_list ha) hs hw h1) (h σ H _ s fun ω1 c1 v1 H1 f1 s1 k1 o1 => by
    obtain ⟨v, g1, g2⟩ := s1.get hd
    cases g2
    refine ⟨_, g1, f1 σ H1 _ s1 fun ω2 c2 v2 H2 ⟨ds, d, k, j, hw2, e1, e2, hj, q⟩ s2 k2 o2 => ?_⟩
    subst e1; subst e2
    cases int_of o2
    obtain ⟨u, m1, vs, rfl, m2⟩ := s2.own.at_ p _ (List.mem_of_getElem? hw2)
    have m3 : Rp X.K (hid (dom ω2) H2) v1 d := o1.mono (c := .dat d) k2
    refine ⟨p, vs, k, j, rfl, rfl, m1, by rw [m2.len]; exact hj, ?_⟩
    exact f.nx _ _ _ _ q (s2.put hw2 ⟨_, rfl, m2.set m3 j⟩) (by rw [dom_set hw2]; exact (k1.trans k2).trans (kp_upd (mem_dom hw2))))
/-- o[k], by values, k from 0 on -/
def getN (K : PySem.W.Frag) : V → V → Hp → VK → Prop := fun o i H Q => ∃ p xs k v, o = .ref p ∧ i = .int k ∧ SqL K H p xs ∧ 0 ≤ k ∧ k < 2 ^ 63 ∧ xs[k.toNat]? = some v ∧ Q v H
theorem get_lst : PGet X (getN X.K) := by
  rintro pins s σ H o i ov iv Q I ro ri ⟨p, xs, k, v, rfl, rfl, hl, h0, h1, hv, q⟩
  cases ro
  obtain ⟨t, rfl⟩ := ri
  obtain ⟨its, r, pl, _⟩ := I.list hl
  obtain ⟨u, hu, ru⟩ := r.get hv
  exact wpAny_getItem_list pl.isList h0 h1 (by simpa using hu) ⟨v, H, I, ru, q⟩
/-- o[k] += e, ints, o an owned list -/
theorem s_augO (i n : Nat) {p : Addr} (hd : δ[i]? = some (some (.raw (.ref p)))) (h : N X ω δ b fun ω1 c1 => ∃ ds k m, ω1[n]? = some (p, lstP ds) ∧ c1 = .dat (.int k) ∧ 0 ≤ k ∧ k < 1000000 ∧ ds[k.toNat]? = some (.int m) ∧
      N X ω1 δ e fun ω2 c2 => ∃ l, ω2[n]? = some (p, lstP ds) ∧ c2 = .dat (.int l) ∧ E.nx (ω2.set n (p, lstP (ds.set k.toNat (.int (m + l))))) δ) (hN : X.N[i]? = some x := by rfl)
    (ha : ∀ ov iv new, augStore b ov iv new = (do holding [new, ov, iv] (setItem ov iv new); release [new, ov, iv] []; pure .next) := by intros; rfl)
    (hv : Vis X.env.scope x := by first | exact Or.inl rfl | exact Or.inr (Or.inl rfl) | exact Or.inr (Or.inr rfl)) (hg : (x == ("__debug__" : Str)) = false := by decide) (hcd : (x == ("__classdict__" : Str)) = false := by decide) : S X ω δ (.AugAssign (.Subscript (.Name x p1) b p2) .Add e pos) E := fun σ H D s f =>
  WS.of (ps_augS (pe_var hN hv hg hcd) (WE.pe X b) get_lst (WE.pe X e) ip_add set_list ha) (by
    obtain ⟨v, g1, g2⟩ := s.get hd
    cases g2
    refine ⟨_, g1, h σ H _ s fun ω1 c1 v1 H1 ⟨ds, k, m, hw, e1, h0, h1, hk, f1⟩ s1 k1 o1 => ?_⟩
    subst e1
    cases int_of o1
    obtain ⟨u, m1, vs, rfl, m2⟩ := s1.own.at_ p _ (List.mem_of_getElem? hw)
    obtain ⟨w, m3, m4⟩ := m2.get hk
    cases m4
    refine ⟨p, vs, k, _, rfl, rfl, SqL.of m1, h0, by omega, m3, f1 σ H1 _ s1 fun ω2 c2 v2 H2 ⟨l, hw2, e2, q⟩ s2 k2 o2 => ?_⟩
    subst e2
    cases int_of o2
    obtain ⟨u2, n1, vs2, rfl, n2⟩ := s2.own.at_ p _ (List.mem_of_getElem? hw2)
    have hlt : k.toNat < vs2.length := by rw [n2.len]; exact (List.getElem?_eq_some_iff.mp hk).1
    refine ⟨m, l, rfl, rfl, p, vs2, k, k.toNat, rfl, rfl, n1, ?_, ?_⟩
    · unfold ixN
      rw [if_pos h0, if_pos (by omega)]
    · exact f.nx _ _ _ _ q (s2.put hw2 ⟨_, rfl, n2.set (Rp.int _) k.toNat⟩) (by rw [dom_set hw2]; exact (k1.trans k2).trans (kp_upd (mem_dom hw2))))
/-- o.append(e), o an owned list -/
theorem s_appendO (i n : Nat) {p : Addr} (hd : δ[i]? = some (some (.raw (.ref p)))) (hw0 : ∃ ds, ω[n]? = some (p, lstP ds)) (h : N X ω δ e fun ω1 c1 => ∃ ds d, ω1[n]? = some (p, lstP ds) ∧ c1 = .dat d ∧ ds.length < 100000 ∧ E.nx (ω1.set n (p, lstP (ds ++ [d]))) δ) (hN : X.N[i]? = some x := by rfl)
    (hs : swapsWith (.Call (.Attribute (.Name x p1) "append" p2) [e] [] p3) none pos.line X.env = pure false := by rfl)
    (hbase : attributeBase (.Name x p1) "append" X.env (eval (.Name x p1) X.env) = eval (.Name x p1) X.env := by rfl)
    (hfew : ((backTo p3 (starEach [e] X.env)).all (fun x => !x.1) && (backToKw p3 (keywordEach [] X.env)).all (fun x => x.1.isSome)
      && decide ([e].length + ([] : List Keyword).length + (if ([] : List Keyword).isEmpty then 0 else 1) < 30)) = true := by rfl)
    (hline : (p2.endLine == p3.line) = true := by rfl) (hst : starEach [e] X.env = (false, eval e X.env) :: starEach [] X.env := by rfl) (hplain : (backTo p3 (starEach [] X.env)).any (·.1) = false := by rfl)
    (hv : Vis X.env.scope x := by first | exact Or.inl rfl | exact Or.inr (Or.inl rfl) | exact Or.inr (Or.inr rfl)) (hg : (x == ("__debug__" : Str)) = false := by decide) (hcd : (x == ("__classdict__" : Str)) = false := by decide) :
    S X ω δ (.Expr (.Call (.Attribute (.Name x p1) "append" p2) [e] [] p3) pos) E := fun σ H D s f =>
  WS.of (ps_expr (pe_bm PySem.F.plainAttrs_list PySem.F.slot_list_append PySem.F.type_list_append mt_append (pe_var hN hv hg hcd) (pa_cons (WE.pe X e) pa_nil hst) hbase hfew hline hst hplain) hs) (by
    obtain ⟨v, g1, g2⟩ := s.get hd
    cases g2
    obtain ⟨ds0, hw0⟩ := hw0
    obtain ⟨u0, a1, vs0, rfl, a2⟩ := s.own.at_ p _ (List.mem_of_getElem? hw0)
    refine ⟨_, g1, .inl ⟨rfl, _, SqL.of a1⟩, h σ H _ s fun ω1 c1 v1 H1 ⟨ds, d, hw, e1, hz, q⟩ s1 k1 o1 => ?_⟩
    subst e1
    obtain ⟨u, m1, vs, rfl, m2⟩ := s1.own.at_ p _ (List.mem_of_getElem? hw)
    refine ⟨p, vs, _, rfl, rfl, m1, by rw [m2.len]; exact Nat.lt_of_lt_of_le hz (by decide), ?_⟩
    exact f.nx _ _ _ _ q (s1.put hw ⟨_, rfl, m2.append (.cons o1 .nil)⟩) (by rw [dom_set hw]; exact k1.trans (kp_upd (mem_dom hw))))
/-! ## loops -/
/-- for x in a list (or tuple) that is a datum; x in slot j -/
theorem s_forD (j : Nat) {iter : Expr} (hp : PassesOwn (model X.prog X.w) X.A X.env X.xe) (hc : X.calm = true) (hn : X.N.Nodup)
    (h : N X ω δ iter fun ω1 c => ∃ ds, c = .dat (.list ds) ∧ ∃ I : Nat → Ow → Env → Prop, I 0 ω1 δ ∧
      (∀ i ω2 δ2 d, ds[i]? = some d → I i ω2 δ2 → B X ω2 (δ2.set j (some (.dat d))) body { nx := I (i + 1), ct := I (i + 1), bk := E.nx, rt := E.rt }) ∧ ∀ ω2 δ2, I ds.length ω2 δ2 → E.nx ω2 δ2)
    (hN : X.N[j]? = some x := by rfl) (hx : Loc X.env.scope x := by first | exact Or.inl rfl | exact Or.inr rfl) (hf : X.fn x = true ∨ X.env.scope.names.lookup x = some .local := by first | exact .inl rfl | exact .inr rfl | assumption)
    (hs : ∀ x, foldedSetIterable iter X.env x = pure x := by intro _; rfl) : S X ω δ (.For (.Name x p1) iter body [] pos) E := fun σ H D s f =>
  WS.of (ps_for hp hc (pi_list (WE.pe X iter)) (pg_name hn hN hx hf) (WB.pss X body) hs) (h σ H _ s fun ω1 c v H1 ⟨ds, e1, I, i0, it, ie⟩ s1 k1 o1 => by
    subst e1
    cases o1 with
    | @lst a xs _ hl hr =>
      refine ⟨a, rfl, ⟨xs, SqL.of (hid_some hl).2⟩, for_list (K := X.K) (a := a) (xs := xs) (fun i σ' H' => ∃ ω2 δ2, I i ω2 δ2 ∧ StOk X.K ω2 δ2 σ' H' ∧ Kp (dom ω1) H1 (dom ω2) H') ⟨ω1, δ, i0, s1, Kp.refl _ _⟩ ?_ ?_ ?_⟩
      · rintro i σ' H' _ ⟨ω2, δ2, _, _, k2⟩
        exact SqL.of (hid_some (k2 _ _ hl)).2
      · rintro i y σ' H' hy ⟨ω2, δ2, hi, s2, k2⟩
        obtain ⟨d, hd, rd⟩ := hr.get' hy
        refine it i ω2 δ2 d hd hi _ _ _ (s2.store j (c := .dat d) (rd.mono k2)) ⟨fun ω3 δ3 σ3 H3 q s3 k3 => ⟨ω3, δ3, q, s3, k2.trans k3⟩, fun ω3 c v H3 q s3 k3 o3 => f.rt ω3 c v H3 q s3 (k1.trans (k2.trans k3)) o3, fun ω3 δ3 σ3 H3 q s3 k3 => f.nx ω3 δ3 σ3 H3 q s3 (k1.trans (k2.trans k3)), fun ω3 δ3 σ3 H3 q s3 k3 => ⟨ω3, δ3, q, s3, k2.trans k3⟩⟩
      · rintro σ' H' ⟨ω2, δ2, hi, s2, k2⟩
        rw [hr.len] at hi
        exact f.nx ω2 δ2 σ' H' (ie ω2 δ2 hi) s2 (k1.trans k2))
theorem s_forT (j : Nat) {iter : Expr} (hp : PassesOwn (model X.prog X.w) X.A X.env X.xe) (hc : X.calm = true) (hn : X.N.Nodup)
    (h : N X ω δ iter fun ω1 c => ∃ ds, c = .dat (.tuple ds) ∧ ∃ I : Nat → Ow → Env → Prop, I 0 ω1 δ ∧
      (∀ i ω2 δ2 d, ds[i]? = some d → I i ω2 δ2 → B X ω2 (δ2.set j (some (.dat d))) body { nx := I (i + 1), ct := I (i + 1), bk := E.nx, rt := E.rt }) ∧ ∀ ω2 δ2, I ds.length ω2 δ2 → E.nx ω2 δ2)
    (hN : X.N[j]? = some x := by rfl) (hx : Loc X.env.scope x := by first | exact Or.inl rfl | exact Or.inr rfl) (hf : X.fn x = true ∨ X.env.scope.names.lookup x = some .local := by first | exact .inl rfl | exact .inr rfl | assumption)
    (hs : ∀ x, foldedSetIterable iter X.env x = pure x := by intro _; rfl) : S X ω δ (.For (.Name x p1) iter body [] pos) E := fun σ H D s f =>
  WS.of (ps_for hp hc (pi_tup (WE.pe X iter)) (pg_name hn hN hx hf) (WB.pss X body) hs) (h σ H _ s fun ω1 c v H1 ⟨ds, e1, I, i0, it, ie⟩ s1 k1 o1 => by
    subst e1
    cases o1 with
    | @tup a xs _ hl hr =>
      refine ⟨a, rfl, ⟨xs, sqt_hid hl⟩, for_tup (K := X.K) (a := a) (xs := xs) (fun i σ' H' => ∃ ω2 δ2, I i ω2 δ2 ∧ StOk X.K ω2 δ2 σ' H' ∧ Kp (dom ω1) H1 (dom ω2) H') ⟨ω1, δ, i0, s1, Kp.refl _ _⟩ ?_ ?_ ?_⟩
      · rintro i σ' H' _ ⟨ω2, δ2, _, _, k2⟩
        exact sqt_hid (seqT k2 hl)
      · rintro i y σ' H' hy ⟨ω2, δ2, hi, s2, k2⟩
        obtain ⟨d, hd, rd⟩ := hr.get' hy
        refine it i ω2 δ2 d hd hi _ _ _ (s2.store j (c := .dat d) (rd.mono k2)) ⟨fun ω3 δ3 σ3 H3 q s3 k3 => ⟨ω3, δ3, q, s3, k2.trans k3⟩, fun ω3 c v H3 q s3 k3 o3 => f.rt ω3 c v H3 q s3 (k1.trans (k2.trans k3)) o3, fun ω3 δ3 σ3 H3 q s3 k3 => f.nx ω3 δ3 σ3 H3 q s3 (k1.trans (k2.trans k3)), fun ω3 δ3 σ3 H3 q s3 k3 => ⟨ω3, δ3, q, s3, k2.trans k3⟩⟩
      · rintro σ' H' ⟨ω2, δ2, hi, s2, k2⟩
        rw [hr.len] at hi
        exact f.nx ω2 δ2 σ' H' (ie ω2 δ2 hi) s2 (k1.trans k2))
/-- for x in range(n) -/
theorem s_forR (j : Nat) (hp : PassesOwn (model X.prog X.w) X.A X.env X.xe) (hc : X.calm = true) (hn : X.N.Nodup) (hm : X.mg "range" = none)
    (h : N X ω δ a fun ω1 c => ∃ n, c = .dat (.int n) ∧ -1000000 ≤ n ∧ n ≤ 1000000 ∧ ∃ I : Nat → Ow → Env → Prop, I 0 ω1 δ ∧
      (∀ i ω2 δ2, i < n.toNat → I i ω2 δ2 → B X ω2 (δ2.set j (some (.dat (.int (i : Int))))) body { nx := I (i + 1), ct := I (i + 1), bk := E.nx, rt := E.rt }) ∧ ∀ ω2 δ2, I n.toNat ω2 δ2 → E.nx ω2 δ2)
    (hg : Gl X "range" := by rfl) (ha : starEach [a] X.env = [(false, eval a X.env)] := by rfl) (hN : X.N[j]? = some x := by rfl) (hx : Loc X.env.scope x := by first | exact Or.inl rfl | exact Or.inr rfl) (hf : X.fn x = true ∨ X.env.scope.names.lookup x = some .local := by first | exact .inl rfl | exact .inr rfl | assumption)
    (hs : ∀ x, foldedSetIterable (.Call (.Name "range" p2) [a] [] p3) X.env x = pure x := by intro _; rfl) : S X ω δ (.For (.Name x p1) (.Call (.Name "range" p2) [a] [] p3) body [] pos) E := fun σ H D s f =>
  WS.of (ps_for hp hc (pi_range1 hg hm (pa_cons (WE.pe X a) pa_nil ha) ha) (pg_name hn hN hx hf) (WB.pss X body) hs) (h σ H _ s fun ω1 c v H1 ⟨n, e1, z1, z2, I, i0, it, ie⟩ s1 k1 o1 => by
    subst e1
    cases int_of o1
    refine ⟨n, rfl, by omega, by omega, for_range (lo := 0) (n := n.toNat) (fun i σ' H' => ∃ ω2 δ2, I i ω2 δ2 ∧ StOk X.K ω2 δ2 σ' H' ∧ Kp (dom ω1) H1 (dom ω2) H') ⟨ω1, δ, i0, s1, Kp.refl _ _⟩ ?_ ?_⟩
    · rintro i σ' H' hi ⟨ω2, δ2, hI, s2, k2⟩
      rw [Int.zero_add]
      refine it i ω2 δ2 hi hI _ _ _ (s2.store j (c := .dat (.int i)) (Rp.int _)) ⟨fun ω3 δ3 σ3 H3 q s3 k3 => ⟨ω3, δ3, q, s3, k2.trans k3⟩, fun ω3 c v H3 q s3 k3 o3 => f.rt ω3 c v H3 q s3 (k1.trans (k2.trans k3)) o3, fun ω3 δ3 σ3 H3 q s3 k3 => f.nx ω3 δ3 σ3 H3 q s3 (k1.trans (k2.trans k3)), fun ω3 δ3 σ3 H3 q s3 k3 => ⟨ω3, δ3, q, s3, k2.trans k3⟩⟩
    · rintro σ' H' ⟨ω2, δ2, hi, s2, k2⟩
      exact f.nx ω2 δ2 σ' H' (ie ω2 δ2 hi) s2 (k1.trans k2))
end
end DL

namespace DL
open PySem PySem.Spec L2
/-! ## comprehensions -/
/-- the frame in which a comprehension's block runs -/
abbrev BlkF (X : Cx) (scope : Scope) (Γ : Cx → Prop) : Prop := ∀ (s : Shared) (H : Hp) (C : Addr) (cl : List (Str × Addr)) (fp : List Addr), Γ (X.blk s H scope (compEnvC scope cl C X.env) fp)
theorem EnvOk.wipe {K : PySem.W.Frag} {O : List Addr} {H : Hp} : ∀ {σ : St} {δ : Env} (i : Nat), EnvOk K O H σ δ → EnvOk K O H (σ.set i none) (δ.set i none)
  | [], [], _, _ => trivial
  | _ :: _, _ :: _, 0, ⟨_, r⟩ => ⟨fun x q => (nomatch q), r⟩
  | _ :: _, _ :: _, i + 1, ⟨h, r⟩ => ⟨h, EnvOk.wipe i r⟩
  | [], _ :: _, _, h => h.elim
  | _ :: _, [], _, h => h.elim
theorem set_wipe {σ : St} {j : Nat} {v : Option V} : ((σ.set j none).set j v).set j none = σ.set j none := by
  rw [List.set_set, List.set_set]
/-- what a turn of the block has to reach: behind the accumulated list D stands what is owned outside -/
def Acc (D : Addr) (J : Ow → List PyData → Prop) (ω : Ow) (acc : List PyData) : Prop := ∃ ω', ω = (D, lstP acc) :: ω' ∧ J ω' acc
section
variable {X : Cx} {ω : Ow} {δ : Env} {e a b c elt iter : Expr} {Φ : Ow → Cell → Prop} {pos p1 p2 p3 : Pos} {x : Str} {scope : Scope}
theorem lc_done {Q : VK} {ω1 : Ow} {σ : St} {H1 H' : Hp} {D : Addr} {acc : List PyData} {ω2 : Ow} (s : StOk X.K ((D, lstP acc) :: ω2) δ σ H') (q : CellOk X.K (dom ω2) H' (.ref D) (.dat (.list acc)) → Q (.ref D) H') : Q (.ref D) H' := q (own_lst s.own)
/-- [elt for x in range(n)] -/
theorem t_lcR (j : Nat)
    (h : N X ω δ a fun ω1 c => ∃ n, c = .dat (.int n) ∧ -1000000 ≤ n ∧ n ≤ 1000000 ∧ ∃ J : Nat → Ow → List PyData → Prop, J 0 ω1 [] ∧
      (∀ i ω2 acc D, i < n.toNat → J i ω2 acc → BlkF X scope fun Y => N Y ((D, lstP acc) :: ω2) ((δ.set j none).set j (some (.dat (.int (i : Int))))) elt fun ω3 c => ∃ d, c = .dat d ∧ acc.length < 100000 ∧ ∃ ω4, ω3 = (D, lstP acc) :: ω4 ∧ J (i + 1) ω4 (acc ++ [d])) ∧
      ∀ ω2 acc, J n.toNat ω2 acc → Φ ω2 (.dat (.list acc))) {σ : St} {H : Hp} {Q : VK} (s : StOk X.K ω δ σ H) (q : ∀ ω' c v H', Φ ω' c → StOk X.K ω' δ σ H' → Kp (dom ω) H (dom ω') H' → CellOk X.K (dom ω') H' v c → Q v H') :
    tLc (iRng1 (tCons (WE X a) tNil)) (gName j) tYes (fun σ H Q => BlkF X scope fun Y => WE Y elt σ H Q) [j] σ H Q :=
  h σ H _ s fun ω1 c v H1 ⟨n, e1, z1, z2, J, j0, jt, je⟩ s1 k1 o1 => by
    subst e1
    cases int_of o1
    refine ⟨n, rfl, by omega, by omega, fun D hD => ?_⟩
    have hD0 : (lstP []).ok X.K (hid (dom ω1) H1) (.lst []) := ⟨[], rfl, .nil⟩
    refine lc_range (lo := 0) (n := n.toNat) (g := gName j) (tt := tYes) (te := fun σ H Q => BlkF X scope fun Y => WE Y elt σ H Q) (vs := [j]) (σ := σ) (H1 := H1) (D := D) (Qd := fun H => Q (.ref D) H) (fun i H' => ∃ ω2 acc, J i ω2 acc ∧ StOk X.K ((D, lstP acc) :: ω2) δ σ H' ∧ Kp (dom ω1) H1 (D :: dom ω2) H') ⟨ω1, [], j0, s1.cons hD hD0, (s1.own.cons hD hD0).2⟩ ?_ ?_
    · rintro i H' hi ⟨ω2, acc, hJ, s2, k2⟩
      refine ⟨set_wipe, fun s3 H3 C cl fp => ?_⟩
      rw [Int.zero_add]
      have sB : StOk X.K ((D, lstP acc) :: ω2) ((δ.set j none).set j (some (.dat (.int (i : Int))))) ((wipe σ [j]).set j (some (.int (i : Int)))) H' := ⟨(s2.env.wipe j).set (c := .dat (.int i)) (Rp.int _) j, s2.own⟩
      refine jt i ω2 acc D hi hJ s3 H3 C cl fp _ _ _ sB fun ω3 c v H4 ⟨d, e1, hz, ω4, e2, hJ'⟩ s4 k4 o4 => ?_
      subst e1; subst e2
      obtain ⟨u, m1, vs, rfl, m2⟩ := s4.own.at_ D _ List.mem_cons_self
      have ho : (lstP (acc ++ [d])).ok X.K (hid (dom ((D, lstP acc) :: ω4)) H4) (.lst (vs ++ [v])) := ⟨_, rfl, m2.append (.cons o4 .nil)⟩
      refine ⟨vs, m1, by rw [m2.len]; exact Nat.lt_of_lt_of_le hz (by decide), ω4, _, hJ', ?_, (k2.trans k4).trans (kp_upd List.mem_cons_self)⟩
      have oo := s4.own.put (i := 0) (p := D) (P := lstP acc) rfl ho
      exact ⟨s2.env.mono (k4.trans (kp_upd List.mem_cons_self)), oo⟩
    · rintro H' ⟨ω2, acc, hJ, s2, k2⟩
      exact q ω2 _ _ H' (je ω2 acc hJ) s2.drop (k1.trans (k2.trans (kp_drop (P := lstP acc)))) (own_lst s2.own)
theorem n_lcR (j : Nat) (hc : X.calm = true) (hn : X.N.Nodup) (hm : X.mg "range" = none) (hb : BlkOk X.N X.env.scope scope [(x, j)])
    (h : N X ω δ a fun ω1 c => ∃ n, c = .dat (.int n) ∧ -1000000 ≤ n ∧ n ≤ 1000000 ∧ ∃ J : Nat → Ow → List PyData → Prop, J 0 ω1 [] ∧
      (∀ i ω2 acc D, i < n.toNat → J i ω2 acc → BlkF X scope fun Y => N Y ((D, lstP acc) :: ω2) ((δ.set j none).set j (some (.dat (.int (i : Int))))) elt fun ω3 c => ∃ d, c = .dat d ∧ acc.length < 100000 ∧ ∃ ω4, ω3 = (D, lstP acc) :: ω4 ∧ J (i + 1) ω4 (acc ++ [d])) ∧
      ∀ ω2 acc, J n.toNat ω2 acc → Φ ω2 (.dat (.list acc)))
    (hgt : BlkF X scope fun Y => PG Y (.Name x p1) (gName j)) (hg : Gl X "range" := by rfl) (ha : starEach [a] X.env = [(false, eval a X.env)] := by rfl)
    (hs : ∀ y, foldedSetIterable (.Call (.Name "range" p2) [a] [] p3) X.env y = pure y := by intro _; rfl) : N X ω δ (.ListComp elt [{ target := .Name x p1, iter := .Call (.Name "range" p2) [a] [] p3, ifs := [], is_async := 0 }] scope pos) Φ :=
  n_lift (pe_lc (own := [(x, j)]) (g := gName j) (te := fun σ H Q => BlkF X scope fun Y => WE Y elt σ H Q) hc hn (pi_range1 hg hm (pa_cons (WE.pe X a) pa_nil ha) ha) hb hgt (fun _ _ _ _ _ => pts_nil) (fun s H C cl fp => ⟨fun pins s' σ' H' Q I q => q s H C cl fp pins s' I⟩) hs) fun σ H Q s q => t_lcR j h s q
theorem s_lcR (i j : Nat) {y : Str} {py spos : Pos} {E : En} (hc : X.calm = true) (hn : X.N.Nodup) (hm : X.mg "range" = none) (hb : BlkOk X.N X.env.scope scope [(x, j)])
    (h : N X ω δ a fun ω1 c => ∃ n, c = .dat (.int n) ∧ -1000000 ≤ n ∧ n ≤ 1000000 ∧ ∃ J : Nat → Ow → List PyData → Prop, J 0 ω1 [] ∧
      (∀ i ω2 acc D, i < n.toNat → J i ω2 acc → BlkF X scope fun Y => N Y ((D, lstP acc) :: ω2) ((δ.set j none).set j (some (.dat (.int (i : Int))))) elt fun ω3 c => ∃ d, c = .dat d ∧ acc.length < 100000 ∧ ∃ ω4, ω3 = (D, lstP acc) :: ω4 ∧ J (i + 1) ω4 (acc ++ [d])) ∧
      ∀ ω2 acc, J n.toNat ω2 acc → E.nx ω2 (δ.set i (some (.dat (.list acc)))))
    (hgt : BlkF X scope fun Y => PG Y (.Name x p1) (gName j)) (hg : Gl X "range" := by rfl) (ha : starEach [a] X.env = [(false, eval a X.env)] := by rfl)
    (hs : ∀ y, foldedSetIterable (.Call (.Name "range" p2) [a] [] p3) X.env y = pure y := by intro _; rfl)
    (hyN : X.N[i]? = some y := by rfl) (hyl : X.env.scope.names.lookup y = some .local := by rfl) (hkd : X.env.scope.kind = .function := by rfl) (hpl : (py.line == pos.line) = true := by rfl) (hfr : (scope.names.any fun (n, k) => n == y && (k == .local || k == .cell)) = false := by decide +kernel) : S X ω δ (.Assign [.Name y py] (.ListComp elt [{ target := .Name x p1, iter := .Call (.Name "range" p2) [a] [] p3, ifs := [], is_async := 0 }] scope pos) spos) E := fun σ H D s f =>
  WS.of (ps_setLc (i := i) (own := [(x, j)]) (g := gName j) (te := fun σ H Q => BlkF X scope fun Y => WE Y elt σ H Q) hc hn hyN hyl (sw_true hkd hyl hpl hfr) (pi_range1 hg hm (pa_cons (WE.pe X a) pa_nil ha) ha) hb hgt (fun _ _ _ _ _ => pts_nil) (fun s H C cl fp => ⟨fun pins s' σ' H' Q I q => q s H C cl fp pins s' I⟩) hs) (t_lcR (Φ := fun ω1 c => E.nx ω1 (δ.set i (some c))) j h s fun ω1 c v H1 q s1 k1 o1 => f.nx ω1 _ _ H1 q (s1.store i o1) k1)
/-- [elt for x in a list] -/
theorem t_lcL (j : Nat)
    (h : N X ω δ iter fun ω1 c => ∃ ds, c = .dat (.list ds) ∧ ∃ J : Nat → Ow → List PyData → Prop, J 0 ω1 [] ∧
      (∀ i ω2 acc D d0, ds[i]? = some d0 → J i ω2 acc → BlkF X scope fun Y => N Y ((D, lstP acc) :: ω2) ((δ.set j none).set j (some (.dat d0))) elt fun ω3 c => ∃ d, c = .dat d ∧ acc.length < 100000 ∧ ∃ ω4, ω3 = (D, lstP acc) :: ω4 ∧ J (i + 1) ω4 (acc ++ [d])) ∧
      ∀ ω2 acc, J ds.length ω2 acc → Φ ω2 (.dat (.list acc))) {σ : St} {H : Hp} {Q : VK} (s : StOk X.K ω δ σ H) (q : ∀ ω' c v H', Φ ω' c → StOk X.K ω' δ σ H' → Kp (dom ω) H (dom ω') H' → CellOk X.K (dom ω') H' v c → Q v H') :
    tLc (iList X.K (WE X iter)) (gName j) tYes (fun σ H Q => BlkF X scope fun Y => WE Y elt σ H Q) [j] σ H Q :=
  h σ H _ s fun ω1 c v H1 ⟨ds, e1, J, j0, jt, je⟩ s1 k1 o1 => by
    subst e1
    cases o1 with
    | @lst l xs _ hl hr =>
      refine ⟨l, rfl, ⟨xs, SqL.of (hid_some hl).2⟩, fun D hD => ?_⟩
      have hD0 : (lstP []).ok X.K (hid (dom ω1) H1) (.lst []) := ⟨[], rfl, .nil⟩
      refine lc_list (K := X.K) (a := l) (xs := xs) (g := gName j) (tt := tYes) (te := fun σ H Q => BlkF X scope fun Y => WE Y elt σ H Q) (vs := [j]) (σ := σ) (H1 := H1) (D := D) (Qd := fun H => Q (.ref D) H) (fun i H' => ∃ ω2 acc, J i ω2 acc ∧ StOk X.K ((D, lstP acc) :: ω2) δ σ H' ∧ Kp (dom ω1) H1 (D :: dom ω2) H') ⟨ω1, [], j0, s1.cons hD hD0, (s1.own.cons hD hD0).2⟩ ?_ ?_ ?_
      · rintro i H' _ ⟨ω2, acc, _, _, k2⟩
        exact SqL.of (hid_some (k2 _ _ hl)).2
      · rintro i y H' hy ⟨ω2, acc, hJ, s2, k2⟩
        refine ⟨set_wipe, fun s3 H3 C cl fp => ?_⟩
        obtain ⟨d0, hd0, rd0⟩ := hr.get' hy
        have sB : StOk X.K ((D, lstP acc) :: ω2) ((δ.set j none).set j (some (.dat d0))) ((wipe σ [j]).set j (some y)) H' := ⟨(s2.env.wipe j).set (c := .dat d0) (rd0.mono k2) j, s2.own⟩
        refine jt i ω2 acc D d0 hd0 hJ s3 H3 C cl fp _ _ _ sB fun ω3 c v H4 ⟨d, e1, hz, ω4, e2, hJ'⟩ s4 k4 o4 => ?_
        subst e1; subst e2
        obtain ⟨u, m1, vs, rfl, m2⟩ := s4.own.at_ D _ List.mem_cons_self
        have ho : (lstP (acc ++ [d])).ok X.K (hid (dom ((D, lstP acc) :: ω4)) H4) (.lst (vs ++ [v])) := ⟨_, rfl, m2.append (.cons o4 .nil)⟩
        refine ⟨vs, m1, by rw [m2.len]; exact Nat.lt_of_lt_of_le hz (by decide), ω4, _, hJ', ?_, (k2.trans k4).trans (kp_upd List.mem_cons_self)⟩
        have oo := s4.own.put (i := 0) (p := D) (P := lstP acc) rfl ho
        exact ⟨s2.env.mono (k4.trans (kp_upd List.mem_cons_self)), oo⟩
      · rintro H' ⟨ω2, acc, hJ, s2, k2⟩
        rw [hr.len] at hJ
        exact q ω2 _ _ H' (je ω2 acc hJ) s2.drop (k1.trans (k2.trans (kp_drop (P := lstP acc)))) (own_lst s2.own)
theorem n_lcL (j : Nat) (hc : X.calm = true) (hn : X.N.Nodup) (hb : BlkOk X.N X.env.scope scope [(x, j)])
    (h : N X ω δ iter fun ω1 c => ∃ ds, c = .dat (.list ds) ∧ ∃ J : Nat → Ow → List PyData → Prop, J 0 ω1 [] ∧
      (∀ i ω2 acc D d0, ds[i]? = some d0 → J i ω2 acc → BlkF X scope fun Y => N Y ((D, lstP acc) :: ω2) ((δ.set j none).set j (some (.dat d0))) elt fun ω3 c => ∃ d, c = .dat d ∧ acc.length < 100000 ∧ ∃ ω4, ω3 = (D, lstP acc) :: ω4 ∧ J (i + 1) ω4 (acc ++ [d])) ∧
      ∀ ω2 acc, J ds.length ω2 acc → Φ ω2 (.dat (.list acc)))
    (hgt : BlkF X scope fun Y => PG Y (.Name x p1) (gName j)) (hs : ∀ y, foldedSetIterable iter X.env y = pure y := by intro _; rfl) : N X ω δ (.ListComp elt [{ target := .Name x p1, iter := iter, ifs := [], is_async := 0 }] scope pos) Φ :=
  n_lift (pe_lc (own := [(x, j)]) (g := gName j) (te := fun σ H Q => BlkF X scope fun Y => WE Y elt σ H Q) hc hn (pi_list (WE.pe X iter)) hb hgt (fun _ _ _ _ _ => pts_nil) (fun s H C cl fp => ⟨fun pins s' σ' H' Q I q => q s H C cl fp pins s' I⟩) hs) fun σ H Q s q => t_lcL j h s q
theorem s_lcL (i j : Nat) {y : Str} {py spos : Pos} {E : En} (hc : X.calm = true) (hn : X.N.Nodup) (hb : BlkOk X.N X.env.scope scope [(x, j)])
    (h : N X ω δ iter fun ω1 c => ∃ ds, c = .dat (.list ds) ∧ ∃ J : Nat → Ow → List PyData → Prop, J 0 ω1 [] ∧
      (∀ i ω2 acc D d0, ds[i]? = some d0 → J i ω2 acc → BlkF X scope fun Y => N Y ((D, lstP acc) :: ω2) ((δ.set j none).set j (some (.dat d0))) elt fun ω3 c => ∃ d, c = .dat d ∧ acc.length < 100000 ∧ ∃ ω4, ω3 = (D, lstP acc) :: ω4 ∧ J (i + 1) ω4 (acc ++ [d])) ∧
      ∀ ω2 acc, J ds.length ω2 acc → E.nx ω2 (δ.set i (some (.dat (.list acc)))))
    (hgt : BlkF X scope fun Y => PG Y (.Name x p1) (gName j)) (hs : ∀ y, foldedSetIterable iter X.env y = pure y := by intro _; rfl)
    (hyN : X.N[i]? = some y := by rfl) (hyl : X.env.scope.names.lookup y = some .local := by rfl) (hkd : X.env.scope.kind = .function := by rfl) (hpl : (py.line == pos.line) = true := by rfl) (hfr : (scope.names.any fun (n, k) => n == y && (k == .local || k == .cell)) = false := by decide +kernel) : S X ω δ (.Assign [.Name y py] (.ListComp elt [{ target := .Name x p1, iter := iter, ifs := [], is_async := 0 }] scope pos) spos) E := fun σ H D s f =>
  WS.of (ps_setLc (i := i) (own := [(x, j)]) (g := gName j) (te := fun σ H Q => BlkF X scope fun Y => WE Y elt σ H Q) hc hn hyN hyl (sw_true hkd hyl hpl hfr) (pi_list (WE.pe X iter)) hb hgt (fun _ _ _ _ _ => pts_nil) (fun s H C cl fp => ⟨fun pins s' σ' H' Q I q => q s H C cl fp pins s' I⟩) hs) (t_lcL (Φ := fun ω1 c => E.nx ω1 (δ.set i (some c))) j h s fun ω1 c v H1 q s1 k1 o1 => f.nx ω1 _ _ H1 q (s1.store i o1) k1)
/-- [elt for x in a list if test] -/
theorem t_lcLi (j : Nat) {test : Expr}
    (h : N X ω δ iter fun ω1 c => ∃ ds, c = .dat (.list ds) ∧ ∃ J : Nat → Ow → List PyData → Prop, J 0 ω1 [] ∧
      (∀ i ω2 acc D d0, ds[i]? = some d0 → J i ω2 acc → BlkF X scope fun Y => NT Y ((D, lstP acc) :: ω2) ((δ.set j none).set j (some (.dat d0))) test fun ω3 k =>
        if k = true then BlkF X scope fun Y => N Y ω3 ((δ.set j none).set j (some (.dat d0))) elt fun ω3 c => ∃ d, c = .dat d ∧ acc.length < 100000 ∧ ∃ ω4, ω3 = (D, lstP acc) :: ω4 ∧ J (i + 1) ω4 (acc ++ [d]) else ∃ ω4, ω3 = (D, lstP acc) :: ω4 ∧ J (i + 1) ω4 acc) ∧
      ∀ ω2 acc, J ds.length ω2 acc → Φ ω2 (.dat (.list acc))) {σ : St} {H : Hp} {Q : VK} (s : StOk X.K ω δ σ H) (q : ∀ ω' c v H', Φ ω' c → StOk X.K ω' δ σ H' → Kp (dom ω) H (dom ω') H' → CellOk X.K (dom ω') H' v c → Q v H') :
    tLc (iList X.K (WE X iter)) (gName j) (fun σ H Q => BlkF X scope fun Y => WT Y test σ H Q) (fun σ H Q => BlkF X scope fun Y => WE Y elt σ H Q) [j] σ H Q :=
  h σ H _ s fun ω1 c v H1 ⟨ds, e1, J, j0, jt, je⟩ s1 k1 o1 => by
    subst e1
    cases o1 with
    | @lst l xs _ hl hr =>
      refine ⟨l, rfl, ⟨xs, SqL.of (hid_some hl).2⟩, fun D hD => ?_⟩
      have hD0 : (lstP []).ok X.K (hid (dom ω1) H1) (.lst []) := ⟨[], rfl, .nil⟩
      refine lc_list (K := X.K) (a := l) (xs := xs) (g := gName j) (tt := fun σ H Q => BlkF X scope fun Y => WT Y test σ H Q) (te := fun σ H Q => BlkF X scope fun Y => WE Y elt σ H Q) (vs := [j]) (σ := σ) (H1 := H1) (D := D) (Qd := fun H => Q (.ref D) H) (fun i H' => ∃ ω2 acc, J i ω2 acc ∧ StOk X.K ((D, lstP acc) :: ω2) δ σ H' ∧ Kp (dom ω1) H1 (D :: dom ω2) H') ⟨ω1, [], j0, s1.cons hD hD0, (s1.own.cons hD hD0).2⟩ ?_ ?_ ?_
      · rintro i H' _ ⟨ω2, acc, _, _, k2⟩
        exact SqL.of (hid_some (k2 _ _ hl)).2
      · rintro i y H' hy ⟨ω2, acc, hJ, s2, k2⟩
        refine ⟨set_wipe, fun s3 H3 C cl fp => ?_⟩
        obtain ⟨d0, hd0, rd0⟩ := hr.get' hy
        have sB : StOk X.K ((D, lstP acc) :: ω2) ((δ.set j none).set j (some (.dat d0))) ((wipe σ [j]).set j (some y)) H' := ⟨(s2.env.wipe j).set (c := .dat d0) (rd0.mono k2) j, s2.own⟩
        refine jt i ω2 acc D d0 hd0 hJ s3 H3 C cl fp _ _ _ sB fun ω5 k H5 f5 s5 k5 => ?_
        cases k with
        | true =>
          refine fun s6 H6 C6 cl6 fp6 => f5 s6 H6 C6 cl6 fp6 _ _ _ s5 fun ω3 c v H4 ⟨d, e1, hz, ω4, e2, hJ'⟩ s4 k4 o4 => ?_
          subst e1; subst e2
          obtain ⟨u, m1, vs, rfl, m2⟩ := s4.own.at_ D _ List.mem_cons_self
          have ho : (lstP (acc ++ [d])).ok X.K (hid (dom ((D, lstP acc) :: ω4)) H4) (.lst (vs ++ [v])) := ⟨_, rfl, m2.append (.cons o4 .nil)⟩
          refine ⟨vs, m1, by rw [m2.len]; exact Nat.lt_of_lt_of_le hz (by decide), ω4, _, hJ', ?_, (k2.trans (k5.trans k4)).trans (kp_upd List.mem_cons_self)⟩
          have oo := s4.own.put (i := 0) (p := D) (P := lstP acc) rfl ho
          exact ⟨s2.env.mono ((k5.trans k4).trans (kp_upd List.mem_cons_self)), oo⟩
        | false =>
          obtain ⟨ω4, e2, hJ'⟩ := f5
          subst e2
          exact ⟨ω4, acc, hJ', ⟨s2.env.mono k5, s5.own⟩, k2.trans k5⟩
      · rintro H' ⟨ω2, acc, hJ, s2, k2⟩
        rw [hr.len] at hJ
        exact q ω2 _ _ H' (je ω2 acc hJ) s2.drop (k1.trans (k2.trans (kp_drop (P := lstP acc)))) (own_lst s2.own)
theorem n_lcLi (j : Nat) {test : Expr} (hc : X.calm = true) (hn : X.N.Nodup) (hb : BlkOk X.N X.env.scope scope [(x, j)])
    (h : N X ω δ iter fun ω1 c => ∃ ds, c = .dat (.list ds) ∧ ∃ J : Nat → Ow → List PyData → Prop, J 0 ω1 [] ∧
      (∀ i ω2 acc D d0, ds[i]? = some d0 → J i ω2 acc → BlkF X scope fun Y => NT Y ((D, lstP acc) :: ω2) ((δ.set j none).set j (some (.dat d0))) test fun ω3 k =>
        if k = true then BlkF X scope fun Y => N Y ω3 ((δ.set j none).set j (some (.dat d0))) elt fun ω3 c => ∃ d, c = .dat d ∧ acc.length < 100000 ∧ ∃ ω4, ω3 = (D, lstP acc) :: ω4 ∧ J (i + 1) ω4 (acc ++ [d]) else ∃ ω4, ω3 = (D, lstP acc) :: ω4 ∧ J (i + 1) ω4 acc) ∧
      ∀ ω2 acc, J ds.length ω2 acc → Φ ω2 (.dat (.list acc)))
    (hgt : BlkF X scope fun Y => PG Y (.Name x p1) (gName j)) (hs : ∀ y, foldedSetIterable iter X.env y = pure y := by intro _; rfl) : N X ω δ (.ListComp elt [{ target := .Name x p1, iter := iter, ifs := [test], is_async := 0 }] scope pos) Φ :=
  n_lift (pe_lc (own := [(x, j)]) (g := gName j) (tt := fun σ H Q => BlkF X scope fun Y => WT Y test σ H Q) (te := fun σ H Q => BlkF X scope fun Y => WE Y elt σ H Q) hc hn (pi_list (WE.pe X iter)) hb hgt (fun s H C cl fp => pts_one ⟨fun pins s' σ' H' Q I q => q s H C cl fp pins s' I⟩) (fun s H C cl fp => ⟨fun pins s' σ' H' Q I q => q s H C cl fp pins s' I⟩) hs) fun σ H Q s q => t_lcLi j h s q
theorem s_lcLi (i j : Nat) {y : Str} {py spos : Pos} {E : En} {test : Expr} (hc : X.calm = true) (hn : X.N.Nodup) (hb : BlkOk X.N X.env.scope scope [(x, j)])
    (h : N X ω δ iter fun ω1 c => ∃ ds, c = .dat (.list ds) ∧ ∃ J : Nat → Ow → List PyData → Prop, J 0 ω1 [] ∧
      (∀ i ω2 acc D d0, ds[i]? = some d0 → J i ω2 acc → BlkF X scope fun Y => NT Y ((D, lstP acc) :: ω2) ((δ.set j none).set j (some (.dat d0))) test fun ω3 k =>
        if k = true then BlkF X scope fun Y => N Y ω3 ((δ.set j none).set j (some (.dat d0))) elt fun ω3 c => ∃ d, c = .dat d ∧ acc.length < 100000 ∧ ∃ ω4, ω3 = (D, lstP acc) :: ω4 ∧ J (i + 1) ω4 (acc ++ [d]) else ∃ ω4, ω3 = (D, lstP acc) :: ω4 ∧ J (i + 1) ω4 acc) ∧
      ∀ ω2 acc, J ds.length ω2 acc → E.nx ω2 (δ.set i (some (.dat (.list acc)))))
    (hgt : BlkF X scope fun Y => PG Y (.Name x p1) (gName j)) (hs : ∀ y, foldedSetIterable iter X.env y = pure y := by intro _; rfl)
    (hyN : X.N[i]? = some y := by rfl) (hyl : X.env.scope.names.lookup y = some .local := by rfl) (hkd : X.env.scope.kind = .function := by rfl) (hpl : (py.line == pos.line) = true := by rfl) (hfr : (scope.names.any fun (n, k) => n == y && (k == .local || k == .cell)) = false := by decide +kernel) : S X ω δ (.Assign [.Name y py] (.ListComp elt [{ target := .Name x p1, iter := iter, ifs := [test], is_async := 0 }] scope pos) spos) E := fun σ H D s f =>
  WS.of (ps_setLc (i := i) (own := [(x, j)]) (g := gName j) (tt := fun σ H Q => BlkF X scope fun Y => WT Y test σ H Q) (te := fun σ H Q => BlkF X scope fun Y => WE Y elt σ H Q) hc hn hyN hyl (sw_true hkd hyl hpl hfr) (pi_list (WE.pe X iter)) hb hgt (fun s H C cl fp => pts_one ⟨fun pins s' σ' H' Q I q => q s H C cl fp pins s' I⟩) (fun s H C cl fp => ⟨fun pins s' σ' H' Q I q => q s H C cl fp pins s' I⟩) hs) (t_lcLi (Φ := fun ω1 c => E.nx ω1 (δ.set i (some c))) j h s fun ω1 c v H1 q s1 k1 o1 => f.nx ω1 _ _ H1 q (s1.store i o1) k1)
end
end DL

namespace DL
open PySem PySem.Spec L2
open PyProof.Rows (importsNone AllBare)
/-! ## the end of a law -/
/-- what a law's def promises: for a script of at most 63 ints (each of at most 2 ^ 20 bits) the answer is True -/
def lawC : Con := fun cs ω Φ => ∃ ns : List Int, cs = [.scr ns] ∧ ns.length ≤ 63 ∧ ω = [] ∧ Φ [] (.dat (.bool true))
theorem lawC_len {cs : List Cell} {ω : Ow} {Φ : Ow → Cell → Prop} (h : lawC cs ω Φ) : cs.length = 1 := by
  obtain ⟨ns, rfl, _⟩ := h
  rfl
theorem law_end {l : PySem.W.OpenLaw} {k : Nat} {q : Program} {loose : List Str} {XP : (Str → Option Value) → Heap → Prop} {YP : World → Heap → Prop} {d : DefRec} {K : Params → PySem.W.Frag} {x : Str}
    (hn : l.most = some 63) (hdf : d.params.defaults = []) (hr : Room k callerA) (hY : ∀ (w : World) (h : Heap), YP w h → (K w.params).In h) (hi : importsNone q = true)
    (F : ∀ (w : World) (mg : Str → Option Value) (fa : Addr) (h : Heap), (K w.params).In h → h.Ns mainGlobals mg → mg d.name = some (.ref fa) →
      ∃ fd : FuncData, (∀ (s : Shared) (u : Value), BindsTo s fd ⟨[u], []⟩ [(x, u)]) ∧
        ∀ base : Heap, (K w.params).In base → base.Ns mainGlobals mg → (∃ m, base.Ns sysModules m) → FnG l.prog w (K w.params) mg base k fa fd [x] (spD (K w.params) lawC)) :
    PySem.W.WalkO q loose XP YP l.row.toRowW d [] (fun f vs => PySem.call f vs) := by
  refine Att.attach_callB hn hdf fun w s₀ s₁ mg mb fa o pm cd doc a vs ns G Y ho hd hcd hmg hobj hints hlen hbits hgens => ?_
  obtain ⟨fd, bind, prom⟩ := F w mg fa _ (hY w _ Y) G.T.g hmg
  have sees := G.T.seer hi
  have rv := vals_ints hints
  have szl : ns.length ≤ sizeLine := Nat.le_trans hlen (by decide)
  obtain ⟨mm, hmods, _⟩ := sees.mods
  have kin := hY w _ Y
  -- whatever is tracked at the call is the script's own list, held as it stands
  have go : ∀ H : Hp, (∀ b, H b = none ∨ (b = a ∧ H b = some (.frz { cls := .type "list", data := .seq vs.toArray } (.lst (ns.map V.int))))) → (H a ≠ none → (K w.params).lookup a = none) → SqL (K w.params) H a (ns.map V.int) →
      codeAny (model l.prog w) callerA (.call (.ref fa) ⟨[.ref a], []⟩) (fun r s' => r = .ok (.ret (.bool true)) ∧ OldK s₁.heap s'.heap ∧ s'.os = s₁.os ∧ AllBare s'.gens) s₁ := by
    intro H only notK hS
    have hold : HOk l.prog w H s₁.heap := by
      intro b u z
      rcases only b with e | ⟨rfl, e⟩
      · rw [e] at z; cases z
      · rw [e] at z
        cases z
        exact ⟨hobj, by rw [List.length_map]; exact szl, vs, _, rv, hobj⟩
    have below : ∀ {b : Addr} {u : Obj}, s₁.heap.get? b = some u → b ≠ a → (hidT s₁.heap H).get? b = some u := fun {b u} z nb => hidT_get z ((only b).resolve_right fun e => nb e.1)
    have nsB : ∀ {b : Addr} {m : Str → Option Value}, s₁.heap.Ns b m → (hidT s₁.heap H).Ns b m := by
      rintro b m ⟨u, es, ep, z, hdict, tail⟩
      refine ⟨u, es, ep, below z ?_, hdict, tail⟩
      rintro rfl
      rw [hobj] at z
      cases z
      cases hdict
    have kinB : (K w.params).In (hidT s₁.heap H) := by
      intro b u z
      refine hidT_get (kin b u z) ?_
      rcases only b with e | ⟨rfl, e⟩
      · exact e
      · rw [notK (by rw [e]; simp)] at z
        cases z
    obtain ⟨mc, lim1, lim2⟩ := G.T.nolimit
    have md : Mod (K w.params) mg (hidT s₁.heap H) := ⟨kinB, nsB G.T.g, ⟨mb, nsB G.T.b, G.T.builtins⟩, ⟨mc, nsB lim1, lim2⟩⟩
    have en : Env0 l.prog w (K w.params) mg (hidT s₁.heap H) callerA [] s₁ H := ⟨rfl, md, fun b u z => of_hidT z, Nat.le_of_eq (hidT_size _ _), trivial, fun b z => (List.not_mem_nil z).elim, hold, .of_eq hgens⟩
    have PR := prom (hidT s₁.heap H) kinB (nsB G.T.g) ⟨mm, nsB hmods⟩
    have want : spD (K w.params) lawC [.ref a] H (fun v _ => v = .bl true) (fun _ _ _ => False) := by
      refine ⟨[], [.scr ns], fun ω' c => ω' = [] ∧ c = .dat (.bool true), .cons ⟨a, rfl, ?_⟩ .nil, ⟨List.nodup_nil, fun p P z => (List.not_mem_nil z).elim⟩, ⟨ns, rfl, hlen, rfl, rfl, rfl⟩, ?_⟩
      · have e : hid (dom ([] : Ow)) H = H := by
          funext b
          exact hid_out (fun z => (List.not_mem_nil z).elim)
        rw [e]
        exact hS
      · rintro ω' c v H' ⟨rfl, rfl⟩ _ _ o
        exact bool_of o
    refine codeAny_mono (PR.run callerA [] s₁ H ⟨[.ref a], []⟩ [.ref a] [.ref a] _ _ rfl hr en (bind s₁ (.ref a)) (.cons rfl .nil) want) fun r s' h => ?_
    cases r with
    | error e => exact h.elim
    | ok fl =>
      cases fl with
      | next => exact h.elim
      | brk => exact h.elim
      | cont => exact h.elim
      | ret u =>
        obtain ⟨v, H', hos, hbare, un, held, rl, q⟩ := h
        subst q
        cases (show u = Value.bool true from rl)
        refine ⟨rfl, OldK.of_keep fun b u z => ?_, hos, hbare⟩
        rcases only b with e | ⟨rfl, e⟩
        · exact un.keep b u z e (fun y => (List.not_mem_nil y).elim) (fun y => (List.not_mem_nil y).elim)
        · have z2 := (held b _ (un.frzs b _ _ e)).1
          rw [hobj] at z
          cases z
          exact z2
  cases hk : (K w.params).lookup a with
  | some u =>
    have z := kin a u hk
    rw [hobj] at z
    cases z
    exact go (fun _ => none) (fun b => .inl rfl) (fun z => absurd rfl z) (.inr ⟨_, vs.toArray, _, hk, rfl, rfl, rfl, by rw [List.size_toArray, hints.length]; exact szl, by simpa using rv⟩)
  | none =>
    refine go (fun b => if b = a then some (.frz { cls := .type "list", data := .seq vs.toArray } (.lst (ns.map V.int))) else none) (fun b => ?_) (fun _ => hk) (.inl (.inr ⟨_, if_pos rfl⟩))
    by_cases hb : b = a
    · exact .inr ⟨hb, if_pos hb⟩
    · exact .inl (if_neg hb)
end DL

namespace DL
open PySem PySem.Spec L2
/-! ## defs as they stand, and what they are ready to promise -/
structure Has (K : PySem.W.Frag) (mg : Str → Option Value) (name : Str) (st : Stmt) (ps : List Str) : Prop where
  ex : ∃ f fd, Fun K name name st f fd ∧ mg name = some (.ref f) ∧ Binds K fd ps []
structure Rdy (P : Program) (w : World) (K : PySem.W.Frag) (mg : Str → Option Value) (base : Heap) (k : Nat) (name : Str) (ps : List Str) (C : Con) : Prop where
  ex : ∃ f fd, FnOk P w K mg base CX0 k f fd ps (spD K C) ∧ mg name = some (.ref f) ∧ PySem.W.keepIn K (.ref f) = true ∧ Binds K fd ps []
structure RdG (P : Program) (w : World) (K : PySem.W.Frag) (mg : Str → Option Value) (base : Heap) (k : Nat) (name : Str) (ps : List Str) (C : Con) : Prop where
  ex : ∃ f fd, FnG P w K mg base k f fd ps (spD K C) ∧ mg name = some (.ref f) ∧ PySem.W.keepIn K (.ref f) = true ∧ Binds K fd ps []
section
variable {P : Program} {w : World} {K : PySem.W.Frag} {mg : Str → Option Value} {base : Heap} {name : Str} {st : Stmt} {Nm ps : List Str} {k : Nat} {C : Con}
theorem has_mk {h : Heap} {f : Addr} {od an : Option Addr} {sl : Array (Option Value)} {oc kV doc pm cd ct : Value} (X : K.In h) (G : h.Ns mainGlobals mg) (a : PySem.W.nsIn K mainGlobals name = some (some (.ref f)))
    (l : K.lookup f = some ⟨oc, od, .func (PySem.W.fnOf name name (defArgs st) (defBody st) (defScope st) .none kV doc pm an cd ct), sl⟩) (c : PySem.W.codeIn K cd name = true) (kp : PySem.W.keepIn K (.ref f) = true)
    (b : ∀ (kV doc pm : Value) (an : Option Addr) (cdv ct : Value) (us : List Value), us.length = ps.length → bindArgs (PySem.W.fnOf name name (defArgs st) (defBody st) (defScope st) .none kV doc pm an cdv ct) ⟨us, []⟩ = pure (ps.zip us)) : Has K mg name st ps :=
  ⟨f, _, fun_mk (st := st) l c kp, PySem.W.mg_of X G a, (fun_mk (st := st) l c kp).binds b⟩
theorem rdy (F : Has K mg name st ps) (sc : FnScope Nm ps (defScope st)) (len : ∀ cs ω Φ, C cs ω Φ → cs.length = ps.length)
    (body : ∀ (X : Cx) (f : Addr) (cdv : Value) (A : Around) (outer : List PySem.Env) (s : Shared) (H : Hp) (E : XK), X = (cxOf CX0 P w K mg base Nm name (defScope st) f cdv A outer s H E).nox → Room k X.A → ∀ cs ω Φ, C cs ω Φ → B X ω (startE Nm cs) (defBody st) { nx := fun ω' _ => Φ ω' (.dat .none), rt := Φ }) :
    Rdy P w K mg base (k + 1) name ps C := by
  obtain ⟨f, fd, F, hm, hb⟩ := F.ex
  exact ⟨f, fd, okD F sc len fun X => body X f, hm, F.kp, hb⟩
theorem rdg (F : Has K mg name st ps) (sc : FnScope Nm ps (defScope st)) (len : ∀ cs ω Φ, C cs ω Φ → cs.length = ps.length)
    (body : ∀ (X : Cx) (f : Addr) (cdv : Value) (A : Around) (outer : List PySem.Env) (s : Shared) (H : Hp) (E : XK), X = (cxOf CX0 P w K mg base Nm name (defScope st) f cdv A outer s H E).nox → X.A.guards = some [] → Room k X.A → ∀ cs ω Φ, C cs ω Φ → B X ω (startE Nm cs) (defBody st) { nx := fun ω' _ => Φ ω' (.dat .none), rt := Φ }) :
    RdG P w K mg base (k + 1) name ps C := by
  obtain ⟨f, fd, F, hm, hb⟩ := F.ex
  exact ⟨f, fd, okG F sc len fun X => body X f, hm, F.kp, hb⟩
end
section
variable {X : Cx} {ω : Ow} {δ : Env} {e a b c : Expr} {rest es : List Expr} {Φ : Ow → Cell → Prop} {pos p1 : Pos} {x : Str} {k j : Nat} {ps : List Str} {C : Con}
theorem n_fn (R : Rdy X.prog X.w X.K X.mg X.base j x ps C) (hr : Room k X.A) (h : NA X ω δ (e :: es) fun ω1 cs => C cs ω1 Φ) (hjk : j ≤ k := by decide) (hg : Gl X x := by rfl)
    (hdb : (x == ("__debug__" : Str)) = false := by decide) (he : starEach (e :: es) X.env = (false, eval e X.env) :: starEach es X.env := by rfl) (hpl : (backTo pos (starEach es X.env)).any (·.1) = false := by rfl) : N X ω δ (.Call (.Name x p1) (e :: es) [] pos) Φ := by
  obtain ⟨f, fd, G, hm, hk, hb⟩ := R.ex
  exact n_call G (hr.mono hjk) hm hk hb h hg hdb he hpl
theorem n_fnG (R : RdG X.prog X.w X.K X.mg X.base j x ps C) (hgd : X.A.guards = some []) (hr : Room k X.A) (h : NA X ω δ (e :: es) fun ω1 cs => C cs ω1 Φ) (hjk : j ≤ k := by decide) (hg : Gl X x := by rfl)
    (hdb : (x == ("__debug__" : Str)) = false := by decide) (he : starEach (e :: es) X.env = (false, eval e X.env) :: starEach es X.env := by rfl) (hpl : (backTo pos (starEach es X.env)).any (·.1) = false := by rfl) : N X ω δ (.Call (.Name x p1) (e :: es) [] pos) Φ := by
  obtain ⟨f, fd, G, hm, hk, hb⟩ := R.ex
  exact n_callG G hgd (hr.mono hjk) hm hk hb h hg hdb he hpl
end
theorem room_u {k : Nat} {A : Around} (h : Room k A) : A.units + 100 < cLine := by have := h.un; omega
theorem room_u64 {k : Nat} {A : Around} (h : Room k A) : A.units + 64 < cLine := by have := h.un; omega
/-! ## weakening, cuts, seals -/
section
variable {X : Cx} {ω : Ow} {δ : Env} {st : Stmt} {sts rest : List Stmt} {E E' : En}
theorem Fits.imp {K : PySem.W.Frag} {H : Hp} {D : Ends} (f : Fits K ω H E' D) (h1 : ∀ ω' δ', E.nx ω' δ' → E'.nx ω' δ') (h2 : ∀ ω' c, E.rt ω' c → E'.rt ω' c) (h3 : ∀ ω' δ', E.bk ω' δ' → E'.bk ω' δ') (h4 : ∀ ω' δ', E.ct ω' δ' → E'.ct ω' δ') : Fits K ω H E D :=
  ⟨fun a b c d q => f.nx a b c d (h1 _ _ q), fun a b c d q => f.rt a b c d (h2 _ _ q), fun a b c d q => f.bk a b c d (h3 _ _ q), fun a b c d q => f.ct a b c d (h4 _ _ q)⟩
/-- a statement, and what holds behind it; the rest from there -/
theorem b_mid (M : Ow → Env → Prop) (h1 : S X ω δ st { E with nx := M }) (h2 : ∀ ω' δ', M ω' δ' → B X ω' δ' rest E) : B X ω δ (st :: rest) E :=
  b_cons fun σ H D s f => h1 σ H D s (f.imp (E := { E with nx := M }) (fun ω' δ' q => h2 ω' δ' q) (fun _ _ q => q) (fun _ _ q => q) fun _ _ q => q)
/-- a list whose items are not told but for what I says of them -/
def sealP (I : List PyData → Prop) : OwnP := ⟨fun K H o => ∃ its, I its ∧ (lstP its).ok K H o, fun K H H' o e ⟨its, h1, h2⟩ => ⟨its, h1, (lstP its).mono _ _ _ _ e h2⟩⟩
theorem OwnOk.swap {K : PySem.W.Frag} {H : Hp} {n : Nat} {p : Addr} {P P' : OwnP} (s : OwnOk K ω H) (h : ω[n]? = some (p, P)) (hp : ∀ o, H p = some o → P.ok K (hid (dom ω) H) o → P'.ok K (hid (dom ω) H) o) : OwnOk K (ω.set n (p, P')) H := by
  refine ⟨by rw [dom_set h]; exact s.nd, fun a R q => ?_⟩
  rw [dom_set h]
  obtain ⟨j, hj⟩ := List.getElem?_of_mem q
  rw [List.getElem?_set] at hj
  split at hj
  · split at hj
    · cases hj
      obtain ⟨o, h1, h2⟩ := s.at_ p P (List.mem_of_getElem? h)
      exact ⟨o, h1, hp o h1 h2⟩
    · cases hj
  · exact s.at_ a R (List.mem_of_getElem? hj)
theorem set_back {n : Nat} {p : Addr} {P P' : OwnP} (h : ω[n]? = some (p, P)) : (ω.set n (p, P')).set n (p, P) = ω := by
  rw [List.set_set]
  apply List.ext_getElem?
  intro j
  rw [List.getElem?_set]
  split
  · rename_i e
    subst e
    rw [if_pos (List.getElem?_eq_some_iff.mp h).1, h]
  · rfl
/-- a sealed list opened for a block, and closed at its ends -/
def closeE (ω : Ow) (n : Nat) (p : Addr) (I : List PyData → Prop) (E : En) : En where
  nx := fun ω' δ' => ∃ its, I its ∧ ω' = ω.set n (p, lstP its) ∧ E.nx ω δ'
  rt := fun ω' c => ∃ its, I its ∧ ω' = ω.set n (p, lstP its) ∧ E.rt ω c
  bk := fun ω' δ' => ∃ its, I its ∧ ω' = ω.set n (p, lstP its) ∧ E.bk ω δ'
  ct := fun ω' δ' => ∃ its, I its ∧ ω' = ω.set n (p, lstP its) ∧ E.ct ω δ'
theorem get_set {n : Nat} {p : Addr} {P P' : OwnP} (h : ω[n]? = some (p, P)) : (ω.set n (p, P'))[n]? = some (p, P') := by
  rw [List.getElem?_set, if_pos rfl, if_pos (List.getElem?_eq_some_iff.mp h).1]
theorem opened_ {K : PySem.W.Frag} {H : Hp} {n : Nat} {p : Addr} {I : List PyData → Prop} (s : OwnOk K ω H) (h : ω[n]? = some (p, sealP I)) : ∃ its, I its ∧ OwnOk K (ω.set n (p, lstP its)) H := by
  obtain ⟨o, h1, its, h2, h3⟩ := s.at_ p _ (List.mem_of_getElem? h)
  refine ⟨its, h2, s.swap h fun o' e _ => ?_⟩
  rw [h1] at e
  cases e
  exact h3
theorem closed_ {K : PySem.W.Frag} {H : Hp} {n : Nat} {p : Addr} {I : List PyData → Prop} {its : List PyData} (h : ω[n]? = some (p, sealP I)) (hI : I its) (s : OwnOk K (ω.set n (p, lstP its)) H) : OwnOk K ω H := by
  have q := s.swap (P' := sealP I) (get_set h) fun o _ ho => ⟨its, hI, ho⟩
  rw [set_back h] at q
  exact q
theorem b_open {n : Nat} {p : Addr} {I : List PyData → Prop} (hn : ω[n]? = some (p, sealP I)) (h : ∀ its, I its → B X (ω.set n (p, lstP its)) δ sts (closeE ω n p I E)) : B X ω δ sts E := fun σ H D s f => by
  obtain ⟨its, hI, ow⟩ := opened_ s.own hn
  have de : ∀ jts, dom (ω.set n (p, lstP jts)) = dom ω := fun _ => dom_set hn
  refine h its hI σ H D ⟨by rw [de]; exact s.env, ow⟩ ⟨?_, ?_, ?_, ?_⟩
  · rintro ω' δ' σ' H' ⟨jts, hJ, rfl, q⟩ s' k
    rw [de, de] at k
    exact f.nx ω δ' σ' H' q ⟨by have := s'.env; rw [de] at this; exact this, closed_ hn hJ s'.own⟩ k
  · rintro ω' c v H' ⟨jts, hJ, rfl, q⟩ s' k o
    rw [de] at o
    rw [de, de] at k
    exact f.rt ω c v H' q (closed_ hn hJ s') k o
  · rintro ω' δ' σ' H' ⟨jts, hJ, rfl, q⟩ s' k
    rw [de, de] at k
    exact f.bk ω δ' σ' H' q ⟨by have := s'.env; rw [de] at this; exact this, closed_ hn hJ s'.own⟩ k
  · rintro ω' δ' σ' H' ⟨jts, hJ, rfl, q⟩ s' k
    rw [de, de] at k
    exact f.ct ω δ' σ' H' q ⟨by have := s'.env; rw [de] at this; exact this, closed_ hn hJ s'.own⟩ k
end
/-! ## texts repeated -/
def repS (z : Str) (k : Int) : Str := ⟨(List.replicate k.toNat z.cps).foldl (· ++ ·) #[]⟩
theorem op_repS {X : Cx} : OpR X (binaryOp .Mult) (fun x y H Q => ∃ z k, x = .str z ∧ y = .int k ∧ 2 ≤ k ∧ k ≤ 100000 ∧ 1 ≤ z.length ∧ z.length * k.toNat ≤ 1000000 ∧ (repS z k).length ≤ sizeLine ∧ Q (.str (repS z k)) H) := by
  intro pins s σ H x y v u Q I rx ry h
  obtain ⟨z, k, rfl, rfl, h1, h2, h3, h4, h5, q⟩ := h
  obtain ⟨t, rfl⟩ := rx
  obtain ⟨t', rfl⟩ := ry
  have e1 : (k == 1 || z.length == 0) = false := by
    rw [Bool.or_eq_false_iff]
    exact ⟨beq_eq_false_iff_ne.mpr (by omega), beq_eq_false_iff_ne.mpr (by omega)⟩
  refine PySem.P.mul_str ?_ ?_ ?_ ?_
  · rw [Bool.or_eq_false_iff]
    exact ⟨decide_eq_false (by omega), decide_eq_false (by omega)⟩
  · intro _ _
    have e2 : ((z.length * k.toNat : Nat) : Int) ≤ 1000000 := by omega
    rw [Int.natCast_mul, Int.toNat_of_nonneg (by omega)] at e2
    have h6 : (z.length : Int) ≤ (2 ^ 63 - 1) / k := Int.le_ediv_of_mul_le (by omega) (by omega)
    omega
  · intro _ _
    exact decide_eq_false (by
      have : (1000000 : Nat) ≤ sizeLine := by decide
      omega)
  · rw [if_neg (by omega), e1]
    exact ⟨h5, .str (repS z k), H, I.tok _, ⟨_, rfl⟩, q⟩
theorem n_repS {X : Cx} {ω : Ow} {δ : Env} {a b : Expr} {Φ : Ow → Cell → Prop} {pos : Pos} (h : N X ω δ a fun ω1 c1 => N X ω1 δ b fun ω2 c2 => ∃ z k, c1 = .dat (.str z) ∧ c2 = .dat (.int k) ∧ 2 ≤ k ∧ k ≤ 100000 ∧ 1 ≤ z.length ∧ z.length * k.toNat ≤ 1000000 ∧ (repS z k).length ≤ sizeLine ∧ Φ ω2 (.dat (.str (repS z k)))) : N X ω δ (.BinOp a .Mult b pos) Φ :=
  n_bop op_repS (h.imp fun _ _ h0 => h0.imp fun ω2 _ ⟨z, k, e1, e2, h1, h2, h3, h4, h5, f⟩ v w σ H Q s o1 o2 q => by
    subst e1; subst e2
    cases str_of o1; cases int_of o2
    exact ⟨z, k, rfl, rfl, h1, h2, h3, h4, h5, q ω2 _ _ H f s (Kp.refl _ _) (Rp.str _)⟩)
end DL

namespace DL
open PySem PySem.Spec L2
/-- a tuple of the module's own top whose items are flat -/
inductive KRel (K : PySem.W.Frag) : Value → PyData → Prop
  | non : KRel K .none .none
  | bl (b : Bool) : KRel K (.bool b) (.bool b)
  | int (i : Int) (t : Tok) : KRel K (.int i t) (.int i)
  | str (x : Str) (t : Tok) : KRel K (.str x t) (.str x)
inductive KRels (K : PySem.W.Frag) : List Value → List PyData → Prop
  | nil : KRels K [] []
  | cons {u : Value} {d : PyData} {us : List Value} {ds : List PyData} : KRel K u d → KRels K us ds → KRels K (u :: us) (d :: ds)
theorem KRels.rp {K : PySem.W.Frag} (H : Hp) : ∀ {us : List Value} {ds : List PyData}, KRels K us ds → ∃ vs, Vals vs us ∧ RpA K H vs ds
  | _, _, .nil => ⟨[], .nil, .nil⟩
  | _, _, .cons h r => by
    obtain ⟨vs, h1, h2⟩ := KRels.rp H r
    cases h with
    | non => exact ⟨.non :: vs, .cons rfl h1, .cons .non h2⟩
    | bl b => exact ⟨.bl b :: vs, .cons rfl h1, .cons (.bl b) h2⟩
    | int i t => exact ⟨.int i :: vs, .cons ⟨t, rfl⟩ h1, .cons (.int i) h2⟩
    | str x t => exact ⟨.str x :: vs, .cons ⟨t, rfl⟩ h1, .cons (.str x) h2⟩
theorem KRels.len {K : PySem.W.Frag} : ∀ {us : List Value} {ds : List PyData}, KRels K us ds → us.length = ds.length
  | _, _, .nil => rfl
  | _, _, .cons _ r => by simp [KRels.len r]
/-- what a name of the top holds: a datum that stands for ever -/
def CD (K : PySem.W.Frag) (mg : Str → Option Value) (x : Str) (d : PyData) : Prop := ∃ u v, mg x = some u ∧ RelV v u ∧ ∀ H, Rp K H v d
theorem cd_int {K : PySem.W.Frag} {mg : Str → Option Value} {h : Heap} {x : Str} {i : Int} {t : Tok} (X : K.In h) (G : h.Ns mainGlobals mg) (a : PySem.W.nsIn K mainGlobals x = some (some (.int i t))) : CD K mg x (.int i) :=
  ⟨_, .int i, PySem.W.mg_of X G a, ⟨t, rfl⟩, fun H => .int i⟩
theorem cd_tup {K : PySem.W.Frag} {mg : Str → Option Value} {h : Heap} {x : Str} {a : Addr} {dd : Option Addr} {us : List Value} {n : Nat} {sl : Array (Option Value)} {ds : List PyData} (X : K.In h) (G : h.Ns mainGlobals mg) (e : PySem.W.nsIn K mainGlobals x = some (some (.ref a)))
    (l : K.lookup a = some ⟨.type "tuple", dd, .seq us.toArray n, sl⟩) (r : KRels K us ds) (z : ds.length ≤ 1000 := by decide) : CD K mg x (.tuple ds) :=
  ⟨_, .ref a, PySem.W.mg_of X G e, rfl, fun H => by
    obtain ⟨vs, h1, h2⟩ := r.rp H
    exact .tup (.inr ⟨_, us.toArray, n, l, rfl, rfl, by rw [List.size_toArray, r.len]; exact sz1000 z, by simpa using h1⟩) h2⟩
theorem n_const {X : Cx} {ω : Ow} {δ : Env} {Φ : Ow → Cell → Prop} {pos : Pos} {x : Str} {d : PyData} (c : CD X.K X.mg x d) (h : Φ ω (.dat d)) (hg : Gl X x := by rfl) (hdb : (x == ("__debug__" : Str)) = false := by decide) : N X ω δ (.Name x pos) Φ := by
  obtain ⟨u, v, h1, h2, h3⟩ := c
  exact n_globD h1 h2 h3 h hg hdb
theorem law_binds {K : PySem.W.Frag} {st : Stmt} {f : Addr} {fd : FuncData} (F : Fun K "law" "law" st f fd) (h : ∀ (kV doc pm : Value) (an : Option Addr) (cdv ct u : Value), bindArgs (PySem.W.fnOf "law" "law" (defArgs st) (defBody st) (defScope st) .none kV doc pm an cdv ct) ⟨[u], []⟩ = pure [(("script" : Str), u)]) :
    ∀ (s : Shared) (u : Value), BindsTo s fd ⟨[u], []⟩ [(("script" : Str), u)] := by
  obtain ⟨oc, od, kV, doc, pm, an, cdv, ct, osl, rfl, lk, hcd⟩ := F.ex
  exact fun s u => .of_eq (h _ _ _ _ _ _ u)
end DL

namespace DL
open PySem PySem.Spec L2
/-! ## the bag of draws: contracts of a law's own helpers -/
def bagI (its : List PyData) : Prop := ∃ (a b c : Int) (ns : List Int), its = [.int a, .int b, .int c, .list (ns.map .int)] ∧ 0 ≤ a ∧ 0 ≤ b ∧ b < 2147483647 ∧ 0 ≤ c ∧ ns.length ≤ 63 ∧ ∀ x ∈ ns, 0 ≤ x
def bagP : OwnP := sealP bagI
def bagC : Con := fun cs ω Φ => ∃ ns : List Int, cs = [.scr ns] ∧ ∀ p, Φ ((p, bagP) :: ω) (.raw (.ref p))
def takeC : Con := fun cs ω Φ => ∃ (n : Nat) (p : Addr) (m : Int), cs = [.raw (.ref p), .dat (.int m)] ∧ ω[n]? = some (p, bagP) ∧ 1 ≤ m ∧ m < 1000000000 ∧ ∀ v : Int, 0 ≤ v → v < m → Φ ω (.dat (.int v))
def oneC : Con := fun cs ω Φ => ∃ (n : Nat) (p : Addr) (ds : List PyData), cs = [.raw (.ref p), .dat (.list ds)] ∧ ω[n]? = some (p, bagP) ∧ ds ≠ [] ∧ ds.length ≤ 1000 ∧ ∀ d ∈ ds, Φ ω (.dat d)
def alikeC : Con := fun cs ω Φ => ∃ d, cs = [.dat d, .dat d] ∧ SeqAt.shaped d = true ∧ Shows d ∧ Φ ω (.dat (.bool true))
theorem n_seal {X : Cx} {ω : Ow} {δ : Env} {e : Expr} {Φ : Ow → Cell → Prop} (I : List PyData → Prop) (h : N X ω δ e fun ω1 c => ∃ p its ω0, ω1 = (p, lstP its) :: ω0 ∧ I its ∧ Φ ((p, sealP I) :: ω0) c) : N X ω δ e Φ := fun σ H Q s q =>
  h σ H Q s fun ω1 c v H1 ⟨p, its, ω0, e1, hI, f⟩ s1 k1 o1 => by
    subst e1
    exact q _ c v H1 f ⟨s1.env, s1.own.swap (n := 0) (p := p) (P := lstP its) (P' := sealP I) rfl fun o _ ho => ⟨its, hI, ho⟩⟩ k1 o1
theorem canLay_ints (ns : List Int) : PyData.canLayAll0 (ns.map .int) = true := by
  induction ns with
  | nil => rfl
  | cons n r ih => simp [PyData.canLayAll0, PyData.canLay0, ih]
theorem abs_nn (i : Int) : 0 ≤ (if i < 0 then -i else i) := by split <;> omega
theorem atI_int {ns : List Int} {k : Int} {d : PyData} (h : atI (ns.map PyData.int) k = some d) : ∃ x ∈ ns, d = .int x := by
  obtain ⟨j, _, h2⟩ := atI_ix h
  rw [List.getElem?_map] at h2
  cases q : ns[j]? with
  | none => rw [q] at h2; cases h2
  | some x => rw [q] at h2; exact ⟨x, List.mem_of_getElem? q, (Option.some.inj h2).symm⟩
theorem atI_in {α : Type} {ds : List α} {k : Int} (h0 : 0 ≤ k) (h1 : k < (ds.length : Int)) : ∃ d, atI ds k = some d ∧ ds[k.toNat]? = some d := by
  have h2 : k.toNat < ds.length := by omega
  refine ⟨ds[k.toNat], ?_, List.getElem?_eq_getElem h2⟩
  unfold atI ixN
  rw [if_pos h0, if_pos (by omega)]
  exact List.getElem?_eq_getElem h2
theorem eqv_ints (a b : Int) : PyData.eqv (.int a) (.int b) = (a == b) := by simp [PyData.eqv]
theorem fmod_nn {a b : Int} (h : 0 < b) : 0 ≤ a.fmod b ∧ a.fmod b < b := by
  rw [Int.fmod_eq_emod_of_nonneg _ (by omega)]
  exact ⟨Int.emod_nonneg _ (by omega), Int.emod_lt_of_pos _ h⟩
theorem fdiv_nn {a b : Int} (h : 0 < b) (h0 : 0 ≤ a) : 0 ≤ a.fdiv b := by
  rw [Int.fdiv_eq_ediv_of_nonneg _ (by omega)]
  exact Int.ediv_nonneg h0 (by omega)
end DL

namespace DL
open PySem PySem.Spec L2
/-! ## comparisons as tests -/
section
variable {X : Cx} {ω : Ow} {δ : Env} {a b c : Expr} {Φ : Ow → Bool → Prop} {pos : Pos}
theorem nt_cop {op : CmpOp} {r : R2} (ho : OpR X (compareOp op) r) (hm : behindInMarks op b = false) (h : N X ω δ a fun ω1 c1 => N X ω1 δ b fun ω2 c2 => Op2 X r ω2 δ c1 c2 fun ω3 c => isB ω3 (fun ω4 k => Φ ω4 k) c) : NT X ω δ (.Compare a [op] [b] pos) Φ := fun σ H Q s q =>
  WT.of (pt_cmpR ho (WE.pe X a) (WE.pe X b) hm) (h σ H _ s fun ω1 c1 v1 H1 f1 s1 k1 o1 => f1 σ H1 _ s1 fun ω2 c2 v2 H2 f2 s2 k2 o2 => f2 v1 v2 σ H2 _ s2 (o1.mono k2) o2 fun ω3 c3 v3 H3 ⟨k, e3, f3⟩ s3 k3 o3 => by
    subst e3
    cases bool_of o3
    exact ⟨k, rfl, q ω3 k H3 f3 s3 (k1.trans (k2.trans k3))⟩)
theorem nt_lt (h : N X ω δ a fun ω1 c1 => N X ω1 δ b fun ω2 c2 => isI2 ω2 c1 c2 fun i j => Φ ω2 (decide (i < j))) : NT X ω δ (.Compare a [.Lt] [b] pos) Φ :=
  nt_cop op_lt (nomark _) (h.imp fun _ _ h1 => h1.imp fun _ _ ⟨i, j, e1, e2, f⟩ => op2_I0 (G := fun i j => .bool (decide (i < j))) (fun _ _ i j => .bl _) ⟨i, j, e1, e2, _, rfl, f⟩)
theorem nt_le (h : N X ω δ a fun ω1 c1 => N X ω1 δ b fun ω2 c2 => isI2 ω2 c1 c2 fun i j => Φ ω2 (decide (i ≤ j))) : NT X ω δ (.Compare a [.LtE] [b] pos) Φ :=
  nt_cop op_le (nomark _) (h.imp fun _ _ h1 => h1.imp fun _ _ ⟨i, j, e1, e2, f⟩ => op2_I0 (G := fun i j => .bool (decide (i ≤ j))) (fun _ _ i j => .bl _) ⟨i, j, e1, e2, _, rfl, f⟩)
theorem nt_gt (h : N X ω δ a fun ω1 c1 => N X ω1 δ b fun ω2 c2 => isI2 ω2 c1 c2 fun i j => Φ ω2 (decide (j < i))) : NT X ω δ (.Compare a [.Gt] [b] pos) Φ :=
  nt_cop op_gt (nomark _) (h.imp fun _ _ h1 => h1.imp fun _ _ ⟨i, j, e1, e2, f⟩ => op2_I0 (G := fun i j => .bool (decide (j < i))) (fun _ _ i j => .bl _) ⟨i, j, e1, e2, _, rfl, f⟩)
theorem nt_ge (h : N X ω δ a fun ω1 c1 => N X ω1 δ b fun ω2 c2 => isI2 ω2 c1 c2 fun i j => Φ ω2 (decide (j ≤ i))) : NT X ω δ (.Compare a [.GtE] [b] pos) Φ :=
  nt_cop op_ge (nomark _) (h.imp fun _ _ h1 => h1.imp fun _ _ ⟨i, j, e1, e2, f⟩ => op2_I0 (G := fun i j => .bool (decide (j ≤ i))) (fun _ _ i j => .bl _) ⟨i, j, e1, e2, _, rfl, f⟩)
theorem nt_eq (hu : X.A.units + 64 < cLine) (h : N X ω δ a fun ω1 c1 => N X ω1 δ b fun ω2 c2 => ∃ d1 d2, c1 = .dat d1 ∧ c2 = .dat d2 ∧ SeqAt.shaped d1 = true ∧ SeqAt.shaped d2 = true ∧ Φ ω2 (PyData.eqv d1 d2)) : NT X ω δ (.Compare a [.Eq] [b] pos) Φ :=
  nt_cop (op_eqD hu) (nomark _) (h.imp fun _ _ h1 => h1.imp fun _ _ ⟨d1, d2, e1, e2, g1, g2, f⟩ => op2_eq ⟨d1, d2, e1, e2, g1, g2, _, rfl, f⟩)
theorem nt_ne (hu : X.A.units + 64 < cLine) (h : N X ω δ a fun ω1 c1 => N X ω1 δ b fun ω2 c2 => ∃ d1 d2, c1 = .dat d1 ∧ c2 = .dat d2 ∧ SeqAt.shaped d1 = true ∧ SeqAt.shaped d2 = true ∧ Φ ω2 (!PyData.eqv d1 d2)) : NT X ω δ (.Compare a [.NotEq] [b] pos) Φ :=
  nt_cop (op_neD hu) (nomark _) (h.imp fun _ _ h1 => h1.imp fun _ _ ⟨d1, d2, e1, e2, g1, g2, f⟩ => op2_ne ⟨d1, d2, e1, e2, g1, g2, _, rfl, f⟩)
theorem nt_in (hm : behindInMarks .In b = false) (h : N X ω δ a fun ω1 c1 => N X ω1 δ b fun ω2 c2 => ∃ d ds, c1 = .dat d ∧ (c2 = .dat (.tuple ds) ∨ c2 = .dat (.list ds)) ∧ flatD d = true ∧ ds.all flatD = true ∧ Φ ω2 (inD d ds)) : NT X ω δ (.Compare a [.In] [b] pos) Φ :=
  nt_cop op_in_seq hm (h.imp fun _ _ h1 => h1.imp fun _ _ ⟨d, ds, e1, e2, g1, g2, f⟩ => op2_in ⟨d, ds, e1, e2, g1, g2, _, rfl, f⟩)
theorem nt_isN (h : N X ω δ a fun ω1 c1 => ∃ d, c1 = .dat d ∧ Φ ω1 (isNone d)) {j p2} : NT X ω δ (.Compare a [.Is] [.Constant .none j p2] pos) Φ := fun σ H Q s q =>
  WT.of (pt_cmp (pc_isN (WE.pe X a))) (h σ H _ s fun ω1 c v H1 ⟨d, e1, f1⟩ s1 k1 o1 => by
    subst e1
    exact ⟨_, rfl, by rw [rp_non o1]; exact q ω1 _ H1 f1 s1 k1⟩)
theorem nt_notN (h : N X ω δ a fun ω1 c1 => ∃ d, c1 = .dat d ∧ Φ ω1 (!isNone d)) {j p2} : NT X ω δ (.Compare a [.IsNot] [.Constant .none j p2] pos) Φ := fun σ H Q s q =>
  WT.of (pt_cmp (pc_notN (WE.pe X a))) (h σ H _ s fun ω1 c v H1 ⟨d, e1, f1⟩ s1 k1 o1 => by
    subst e1
    exact ⟨_, rfl, by rw [rp_non o1]; exact q ω1 _ H1 f1 s1 k1⟩)
theorem nt_chainI {op op' : CmpOp} {g g' : Int → Int → Bool} (ho : OpR X (compareOp op) (rI0 fun i j => .bl (g i j))) (ho' : OpR X (compareOp op') (rI0 fun i j => .bl (g' i j)))
    (h : N X ω δ a fun ω1 c1 => N X ω1 δ b fun ω2 c2 => ∃ i j, c1 = .dat (.int i) ∧ c2 = .dat (.int j) ∧ if g i j = true then N X ω2 δ c (fun ω3 c3 => ∃ k, c3 = .dat (.int k) ∧ Φ ω3 (g' j k)) else Φ ω2 false)
    (hl : lastMarks [op, op'] [b, c] = false := by rfl) : NT X ω δ (.Compare a [op, op'] [b, c] pos) Φ := fun σ H Q s q =>
  WT.of (pt_chain ho ho' (WE.pe X a) (WE.pe X b) (WE.pe X c) hl) (h σ H _ s fun ω1 c1 v1 H1 f1 s1 k1 o1 => f1 σ H1 _ s1 fun ω2 c2 v2 H2 ⟨i, j, e1, e2, f2⟩ s2 k2 o2 => by
    subst e1; subst e2
    cases int_of o1; cases int_of o2
    refine ⟨i, j, rfl, rfl, g i j, rfl, ?_⟩
    cases hg : g i j with
    | true =>
      rw [hg] at f2
      exact f2 σ H2 _ s2 fun ω3 c3 v3 H3 ⟨k, e3, f3⟩ s3 k3 o3 => by
        subst e3
        cases int_of o3
        exact ⟨j, k, rfl, rfl, _, rfl, q ω3 _ H3 f3 s3 (k1.trans (k2.trans k3))⟩
    | false =>
      rw [hg] at f2
      exact ⟨false, rfl, q ω2 _ H2 f2 s2 (k1.trans k2)⟩)
end
end DL

namespace DL
open PySem PySem.Spec L2
/-! ## what is shown -/
def nestD : Nat → PyData
  | 0 => .list []
  | n + 1 => .list [nestD n]
def nestC : Con := fun cs ω Φ => ∃ n : Nat, cs = [.dat (.int (n : Int))] ∧ n ≤ 40 ∧ Φ ω (.dat (nestD n))
/-- decided once by the kernel -/
def showsB (d : PyData) : Bool := d.showable && decide (d.depth ≤ 80) && decide (d.shown.length ≤ sizeLine)
theorem shows_of {d : PyData} (h : showsB d = true) : Shows d := by
  unfold showsB at h
  simp only [Bool.and_eq_true, decide_eq_true_eq] at h
  exact ⟨h.1.1, h.1.2, h.2⟩
/-! ## texts compared -/
def isS2 (ω : Ow) (c1 c2 : Cell) (P : Str → Str → Prop) : Prop := ∃ i j, c1 = .dat (.str i) ∧ c2 = .dat (.str j) ∧ P i j
section
variable {X : Cx} {ω : Ow} {δ : Env} {a b : Expr} {pos : Pos}
theorem op2_eqS {Φ : Ow → Cell → Prop} {c1 c2 : Cell} (h : isS2 ω c1 c2 fun i j => Φ ω (.dat (.bool (decide (i = j))))) : Op2 X rEq ω δ c1 c2 Φ := fun x y σ H Q s o1 o2 q => by
  obtain ⟨i, j, e1, e2, f⟩ := h
  subst e1; subst e2
  cases str_of o1; cases str_of o2
  refine ⟨rfl, ?_⟩
  rw [show decide (V.str i = V.str j) = decide (i = j) by rw [dec_str]; exact (Bool.beq_eq_decide_eq i j)]
  exact q ω _ _ H f s (Kp.refl _ _) (Rp.bl _)
theorem op2_neS {Φ : Ow → Cell → Prop} {c1 c2 : Cell} (h : isS2 ω c1 c2 fun i j => Φ ω (.dat (.bool (!decide (i = j))))) : Op2 X rNe ω δ c1 c2 Φ := fun x y σ H Q s o1 o2 q => by
  obtain ⟨i, j, e1, e2, f⟩ := h
  subst e1; subst e2
  cases str_of o1; cases str_of o2
  refine ⟨rfl, ?_⟩
  rw [show decide (V.str i = V.str j) = decide (i = j) by rw [dec_str]; exact (Bool.beq_eq_decide_eq i j)]
  exact q ω _ _ H f s (Kp.refl _ _) (Rp.bl _)
theorem n_eqS {Φ : Ow → Cell → Prop} (h : N X ω δ a fun ω1 c1 => N X ω1 δ b fun ω2 c2 => isS2 ω2 c1 c2 fun i j => Φ ω2 (.dat (.bool (decide (i = j))))) : N X ω δ (.Compare a [.Eq] [b] pos) Φ :=
  n_cop op_eq (nomark _) (h.imp fun _ _ h1 => h1.imp fun _ _ h2 => op2_eqS h2)
theorem n_neS {Φ : Ow → Cell → Prop} (h : N X ω δ a fun ω1 c1 => N X ω1 δ b fun ω2 c2 => isS2 ω2 c1 c2 fun i j => Φ ω2 (.dat (.bool (!decide (i = j))))) : N X ω δ (.Compare a [.NotEq] [b] pos) Φ :=
  n_cop op_ne (nomark _) (h.imp fun _ _ h1 => h1.imp fun _ _ h2 => op2_neS h2)
theorem nt_eqS {Φ : Ow → Bool → Prop} (h : N X ω δ a fun ω1 c1 => N X ω1 δ b fun ω2 c2 => isS2 ω2 c1 c2 fun i j => Φ ω2 (decide (i = j))) : NT X ω δ (.Compare a [.Eq] [b] pos) Φ :=
  nt_cop op_eq (nomark _) (h.imp fun _ _ h1 => h1.imp fun _ _ ⟨i, j, e1, e2, f⟩ => op2_eqS ⟨i, j, e1, e2, _, rfl, f⟩)
theorem nt_neS {Φ : Ow → Bool → Prop} (h : N X ω δ a fun ω1 c1 => N X ω1 δ b fun ω2 c2 => isS2 ω2 c1 c2 fun i j => Φ ω2 (!decide (i = j))) : NT X ω δ (.Compare a [.NotEq] [b] pos) Φ :=
  nt_cop op_ne (nomark _) (h.imp fun _ _ h1 => h1.imp fun _ _ ⟨i, j, e1, e2, f⟩ => op2_neS ⟨i, j, e1, e2, _, rfl, f⟩)
end
end DL

namespace DL
open PySem PySem.Spec L2
def undat : List Cell → Option (List PyData)
  | [] => some []
  | .dat d :: r => match undat r with
    | some ds => some (d :: ds)
    | none => none
  | _ => none
theorem undat_dats : ∀ {cs : List Cell} {ds : List PyData}, undat cs = some ds → cs = dats ds
  | [], _, h => by cases h; rfl
  | .dat d :: r, ds, h => by
    unfold undat at h
    cases q : undat r with
    | none => rw [q] at h; cases h
    | some es => rw [q] at h; cases h; rw [undat_dats q]; rfl
  | .raw _ :: _, _, h => by cases h
  | .scr _ :: _, _, h => by cases h
section
variable {X : Cx} {ω : Ow} {δ : Env} {k v : Expr} {es : List Expr} {Φ : Ow → Cell → Prop} {pos : Pos}
theorem n_tupU {x1} (h : NA X ω δ es fun ω1 cs => ∃ ds, undat cs = some ds ∧ Nat.ble ds.length 1000 = true ∧ Φ ω1 (.dat (.tuple ds))) : N X ω δ (.Tuple es x1 pos) Φ :=
  n_tup fun σ H Q s q => h σ H Q s fun ω1 cs vs H1 ⟨ds, e1, z, f⟩ => q ω1 cs vs H1 ⟨ds, undat_dats e1, Nat.le_of_ble_eq_true z, f⟩
theorem n_lstU (h : NA X ω δ es fun ω1 cs => ∃ ds, undat cs = some ds ∧ Nat.ble ds.length 1000 = true ∧ Φ ω1 (.dat (.list ds))) : N X ω δ (.List es pos) Φ :=
  n_lst fun σ H Q s q => h σ H Q s fun ω1 cs vs H1 ⟨ds, e1, z, f⟩ => q ω1 cs vs H1 ⟨ds, undat_dats e1, Nat.le_of_ble_eq_true z, f⟩
theorem n_lstOU (h : NA X ω δ es fun ω1 cs => ∃ ds, undat cs = some ds ∧ Nat.ble ds.length 1000 = true ∧ ∀ p, Φ ((p, lstP ds) :: ω1) (.raw (.ref p))) : N X ω δ (.List es pos) Φ :=
  n_lstO fun σ H Q s q => h σ H Q s fun ω1 cs vs H1 ⟨ds, e1, z, f⟩ => q ω1 cs vs H1 ⟨ds, undat_dats e1, Nat.le_of_ble_eq_true z, f⟩
theorem new_dic {K : PySem.W.Frag} {H : Hp} {p : Addr} {kvs : List (Key × V)} {ds : List (PyData × PyData)} (h : OwnOk K ω H) (hp : H p = none) (r : RpK K (hid (dom ω) H) kvs ds) : Rp K (hid (dom ω) (upd H p (.dK kvs))) (.ref p) (.dict ds) :=
  .dic (by rw [hid_out (h.notin hp), upd_same]) (r.mono (kp_new h hp))
theorem n_dict0 (h : Φ ω (.dat (.dict []))) : N X ω δ (.Dict [] [] pos) Φ :=
  n_lift pe_dnewK fun σ H Q s q p hp => q ω _ _ _ h (s.new hp) (kp_new s.own hp) (new_dic s.own hp .nil)
def dkP : OwnP := ⟨fun _ _ o => o = .dK [], fun _ _ _ _ _ h => h⟩
theorem n_dict1 (h : ∀ p, N X ((p, dkP) :: ω) δ k fun ω1 c1 => ∃ (ω' : Ow) (y : Key), ω1 = (p, dkP) :: ω' ∧ c1 = .dat (keyD y) ∧ N X ω1 δ v fun ω2 c2 => ∃ (ω3 : Ow) (d : PyData), ω2 = (p, dkP) :: ω3 ∧ c2 = .dat d ∧ Φ ω3 (.dat (.dict [(keyD y, d)]))) : N X ω δ (.Dict [some k] [v] pos) Φ :=
  n_lift (pe_disp (pps_cons (WE.pe X k) (WE.pe X v) pps_nil) rfl rfl (fun z => by cases z) (Nat.le_of_ble_eq_true rfl)) fun σ H Q s q p hp => by
    have k0 := (s.own.cons (P := dkP) hp rfl).2
    refine h p σ _ _ (s.cons (P := dkP) hp rfl) fun ω1 c1 v1 H1 ⟨ω', y, e1, e2, f1⟩ s1 k1 o1 => ?_
    subst e1; subst e2
    refine f1 σ H1 _ s1 fun ω2 c2 v2 H2 ⟨ω3, d, e3, e4, f2⟩ s2 k2 o2 => ?_
    subst e3; subst e4
    have hv1 : v1 = kV y := by cases y <;> (cases o1; rfl)
    subst hv1
    obtain ⟨o, h1, h2⟩ := s2.own.at_ p _ List.mem_cons_self
    have h2' : o = .dK [] := h2
    subst h2'
    refine ⟨h1, [(y, v2)], rfl, Nat.le_of_ble_eq_true rfl, ?_⟩
    have nd := List.nodup_cons.mp s2.own.nd
    have kk : Kp (dom ((p, dkP) :: ω3)) H2 (dom ω3) (upd H2 p (.dK (mergeK [] [(y, v2)]))) := (kp_upd List.mem_cons_self).trans (kp_drop (P := dkP))
    have oo : OwnOk X.K ω3 (upd H2 p (.dK (mergeK [] [(y, v2)]))) := by
      refine ⟨nd.2, fun a R z => ?_⟩
      obtain ⟨u, g1, g2⟩ := s2.own.at_ a R (List.mem_cons_of_mem _ z)
      have hne : a ≠ p := fun e => nd.1 (List.mem_map.mpr ⟨(a, R), z, e⟩)
      exact ⟨u, by rw [upd_ne hne]; exact g1, R.mono _ _ _ _ kk g2⟩
    refine q ω3 _ _ _ f2 ⟨s2.env.mono kk, oo⟩ (k0.trans (k1.trans (k2.trans kk))) ?_
    exact .dic (by rw [hid_out nd.1, upd_same]; rfl) (.cons (o2.mono (c := .dat d) kk) .nil)
end
end DL

namespace DL
open PySem PySem.Spec L2
/-! ## a bound of what is shown that is soon reckoned -/
mutual
def lenB : PyData → Nat
  | .none => 4
  | .bool _ => 5
  | .int i => i.natAbs.log2 + 3
  | .str x => if (x.cps.toList.all fun c => decide (c < 16 ^ 8)) = true then 10 * x.length + 2 else (reprText x).length
  | .list xs => 2 + lenA xs
  | .tuple xs => 4 + lenA xs
  | .dict kvs => 2 + lenK kvs
def lenA : List PyData → Nat
  | [] => 0
  | x :: r => lenB x + 2 + lenA r
def lenK : List (PyData × PyData) → Nat
  | [] => 0
  | (k, v) :: r => lenB k + lenB v + 4 + lenK r
end
theorem textFrom_le : ∀ (ts : List Str) (k : Nat) (acc : Str), (textFrom k acc ts).length ≤ acc.length + piled ts
  | [], k, acc => Nat.le_refl _
  | t :: r, k, acc => by
    have h := textFrom_le r (k + 1) (acc ++ (if k > 0 then ", " else "" : String) ++ t)
    rw [Str.length_append, Str.length_append] at h
    have h2 : (Str.ofString (if k > 0 then ", " else "" : String)).length ≤ 2 := by split <;> decide
    rw [piled_cons]
    show (textFrom (k + 1) (acc ++ (if k > 0 then ", " else "" : String) ++ t) r).length ≤ _
    omega
theorem listText_le (ts : List Str) : (listText ts).length ≤ 2 + piled ts := by
  unfold listText
  rw [Str.length_append]
  have h := textFrom_le ts 0 "["
  have e1 : (Str.ofString "[").length = 1 := by decide
  have e2 : (Str.ofString "]").length = 1 := by decide
  omega
theorem tupleText_le (ts : List Str) : (tupleText ts).length ≤ 4 + piled ts := by
  unfold tupleText
  rw [Str.length_append, Str.length_append]
  have e1 : (Str.ofString "(").length = 1 := by decide
  have e2 : (Str.ofString (if ts.length == 1 then ",)" else ")" : String)).length ≤ 2 := by split <;> decide
  have e3 : (Str.join ", " ts).length ≤ piled ts := by
    cases ts with
    | nil => decide
    | cons t r => have := join_length_add (t :: r) (by simp); omega
  omega
theorem dictText_le (ts : List Str) : (dictText ts).length ≤ 2 + piled ts := by
  unfold dictText
  rw [Str.length_append, Str.length_append]
  have e1 : (Str.ofString "{").length = 1 := by decide
  have e2 : (Str.ofString "}").length = 1 := by decide
  have e3 : (Str.join ", " ts).length ≤ piled ts := by
    cases ts with
    | nil => decide
    | cons t r => have := join_length_add (t :: r) (by simp); omega
  omega
theorem int_le (i : Int) : (Str.ofString (toString i)).length ≤ i.natAbs.log2 + 3 := by
  rw [PySem.ofString_length]
  have := PySem.int_text_length_le (a := i) (k := i.natAbs.log2 + 1) (by omega) (by omega)
  omega
mutual
theorem shown_le : ∀ d : PyData, d.shown.length ≤ lenB d
  | .none => by decide
  | .bool b => by cases b <;> decide
  | .int i => int_le i
  | .str x => by
    show (reprText x).length ≤ (if (x.cps.toList.all fun c => decide (c < 16 ^ 8)) = true then 10 * x.length + 2 else (reprText x).length)
    split
    · rename_i h
      exact PySem.StrLaws.reprText_len x fun c hc => of_decide_eq_true (List.all_eq_true.mp h c hc)
    · exact Nat.le_refl _
  | .list xs => by
    have h1 := listText_le (PyData.shownAll xs)
    have h2 := shownAll_le xs
    show (listText (PyData.shownAll xs)).length ≤ 2 + lenA xs
    omega
  | .tuple xs => by
    have h1 := tupleText_le (PyData.shownAll xs)
    have h2 := shownAll_le xs
    show (tupleText (PyData.shownAll xs)).length ≤ 4 + lenA xs
    omega
  | .dict kvs => by
    have h1 := dictText_le (PyData.shownKv kvs)
    have h2 := shownKv_le kvs
    show (dictText (PyData.shownKv kvs)).length ≤ 2 + lenK kvs
    omega
theorem shownAll_le : ∀ ds : List PyData, piled (PyData.shownAll ds) ≤ lenA ds
  | [] => Nat.le_refl _
  | d :: r => by
    have h1 := shown_le d
    have h2 := shownAll_le r
    show piled (d.shown :: PyData.shownAll r) ≤ lenB d + 2 + lenA r
    rw [piled_cons]
    omega
theorem shownKv_le : ∀ ds : List (PyData × PyData), piled (PyData.shownKv ds) ≤ lenK ds
  | [] => Nat.le_refl _
  | (k, v) :: r => by
    have h1 := shown_le k
    have h2 := shown_le v
    have h3 := shownKv_le r
    show piled ((k.shown ++ ": " ++ v.shown) :: PyData.shownKv r) ≤ lenB k + lenB v + 4 + lenK r
    rw [piled_cons, Str.length_append, Str.length_append]
    have e2 : (Str.ofString ": ").length = 2 := by decide
    omega
end
/-- decided once by the kernel -/
def showsC (n : Nat) (d : PyData) : Bool := d.showable && decide (d.depth ≤ 60) && decide (lenB d ≤ n)
/-- d is shown in at most n signs, by a bound that adds up -/
structure ShowsN (n : Nat) (d : PyData) : Prop where
  ok : d.showable = true
  dp : d.depth ≤ 60
  sz : lenB d ≤ n
theorem showsN_of {n : Nat} {d : PyData} (h : showsC n d = true) : ShowsN n d := by
  unfold showsC at h
  simp only [Bool.and_eq_true, decide_eq_true_eq] at h
  exact ⟨h.1.1, h.1.2, h.2⟩
theorem ShowsN.shows {n : Nat} {d : PyData} (h : ShowsN n d) (hn : n ≤ 1000000 := by decide) : Shows d :=
  ⟨h.ok, Nat.le_trans h.dp (by decide), Nat.le_trans (shown_le d) (Nat.le_trans h.sz (Nat.le_trans hn (by decide)))⟩
theorem ShowsN.mono {n m : Nat} {d : PyData} (h : ShowsN n d) (l : n ≤ m) : ShowsN m d := ⟨h.ok, h.dp, Nat.le_trans h.sz l⟩
theorem shows_int {i : Int} {k : Nat} (h : i.natAbs.log2 ≤ k) (hk : k ≤ 1900 := by decide) : ShowsN (k + 3) (.int i) := ⟨by simp [PyData.showable]; omega, Nat.zero_le _, Nat.add_le_add_right h 3⟩
theorem shows_bool (b : Bool) : ShowsN 5 (.bool b) := ⟨rfl, Nat.zero_le _, Nat.le_refl _⟩
/-- a list of at most m things, each so shown, each of depth at most p -/
theorem shows_all {n p : Nat} : ∀ {ds : List PyData}, (∀ d ∈ ds, ShowsN n d ∧ d.depth ≤ p) → PyData.showableAll ds = true ∧ PyData.depthAll ds ≤ p ∧ lenA ds ≤ ds.length * (n + 2)
  | [], _ => ⟨rfl, Nat.zero_le _, Nat.zero_le _⟩
  | d :: r, h => by
    obtain ⟨h1, h2, h3⟩ := shows_all (ds := r) fun e he => h e (List.mem_cons_of_mem _ he)
    obtain ⟨g1, g2⟩ := h d List.mem_cons_self
    refine ⟨?_, ?_, ?_⟩
    · show (d.showable && PyData.showableAll r) = true
      rw [g1.ok, h1]; rfl
    · simp only [PyData.depthAll]
      exact Nat.max_le.mpr ⟨g2, h2⟩
    · show lenB d + 2 + lenA r ≤ (r.length + 1) * (n + 2)
      rw [Nat.add_mul]
      have := g1.sz
      omega
theorem shows_list {n p : Nat} {ds : List PyData} (h : ∀ d ∈ ds, ShowsN n d ∧ d.depth ≤ p) (hp : p < 60 := by decide) : ShowsN (2 + ds.length * (n + 2)) (.list ds) := by
  obtain ⟨h1, h2, h3⟩ := shows_all h
  refine ⟨h1, ?_, Nat.add_le_add_left h3 2⟩
  simp only [PyData.depth]
  omega
theorem shows_tuple {n p : Nat} {ds : List PyData} (h : ∀ d ∈ ds, ShowsN n d ∧ d.depth ≤ p) (hp : p < 60 := by decide) : ShowsN (4 + ds.length * (n + 2)) (.tuple ds) := by
  obtain ⟨h1, h2, h3⟩ := shows_all h
  refine ⟨h1, ?_, Nat.add_le_add_left h3 4⟩
  simp only [PyData.depth]
  omega
theorem rep_list (z : Array Nat) : ∀ (n : Nat) (acc : Array Nat), ((List.replicate n z).foldl (· ++ ·) acc).toList = acc.toList ++ (List.replicate n z.toList).flatten
  | 0, acc => by simp
  | n + 1, acc => by
    rw [List.replicate_succ, List.foldl_cons, rep_list z n, List.replicate_succ, List.flatten_cons, Array.toList_append, List.append_assoc]
theorem repS_list (z : Str) (k : Int) : (repS z k).cps.toList = (List.replicate k.toNat z.cps.toList).flatten := by
  unfold repS
  rw [rep_list]
  rfl
theorem repS_len (z : Str) (k : Int) : (repS z k).length = z.length * k.toNat := by
  show (repS z k).cps.size = z.cps.size * k.toNat
  rw [← Array.length_toList, repS_list, List.length_flatten, List.map_replicate, List.sum_replicate_nat, Array.length_toList, Nat.mul_comm]
theorem shows_rep {z : Str} {k : Int} (h : (z.cps.toList.all fun c => decide (c < 16 ^ 8)) = true) : ShowsN (10 * (z.length * k.toNat) + 2) (.str (repS z k)) := by
  refine ⟨rfl, Nat.zero_le _, ?_⟩
  have e : ((repS z k).cps.toList.all fun c => decide (c < 16 ^ 8)) = true := by
    rw [repS_list, List.all_eq_true]
    intro c hc
    obtain ⟨l, hl, hc⟩ := List.mem_flatten.mp hc
    rw [(List.mem_replicate.mp hl).2] at hc
    exact List.all_eq_true.mp h c hc
  show (if ((repS z k).cps.toList.all fun c => decide (c < 16 ^ 8)) = true then 10 * (repS z k).length + 2 else _) ≤ _
  rw [if_pos e, repS_len]
  exact Nat.le_refl _
/-- 'x' * 900, told by what is shown of it alone -/
theorem n_repX {X : Cx} {ω : Ow} {δ : Env} {a b : Expr} {Φ : Ow → Cell → Prop} {pos : Pos} (h : N X ω δ a fun ω1 c1 => N X ω1 δ b fun ω2 c2 => ∃ z k, c1 = .dat (.str z) ∧ c2 = .dat (.int k) ∧ 2 ≤ k ∧ k ≤ 100000 ∧ 1 ≤ z.length ∧ z.length * k.toNat ≤ 1000000 ∧ (z.cps.toList.all fun c => decide (c < 16 ^ 8)) = true ∧ ∀ y, ShowsN (10 * (z.length * k.toNat) + 2) (.str y) → Φ ω2 (.dat (.str y))) : N X ω δ (.BinOp a .Mult b pos) Φ :=
  n_repS (h.imp fun _ _ h0 => h0.imp fun _ _ ⟨z, k, e1, e2, h1, h2, h3, h4, h5, f⟩ => ⟨z, k, e1, e2, h1, h2, h3, h4, by rw [repS_len]; exact Nat.le_trans h4 (by decide), f _ (shows_rep h5)⟩)
theorem all_app {α : Type} {f : α → Bool} {a b : List α} (h1 : a.all f = true) (h2 : b.all f = true) : (a ++ b).all f = true := by rw [List.all_append, h1, h2]; rfl
theorem all_con {α : Type} {f : α → Bool} {x : α} {b : List α} (h1 : f x = true) (h2 : b.all f = true) : (x :: b).all f = true := by rw [List.all_cons, h1, h2]; rfl
theorem showsC_of {n : Nat} {d : PyData} (h : ShowsN n d) : showsC n d = true := by
  unfold showsC
  rw [h.ok, decide_eq_true h.dp, decide_eq_true h.sz]; rfl
end DL

namespace DL
open PySem PySem.Spec L2
/-- the first owned object is left behind -/
theorem n_drop {X : Cx} {ω : Ow} {δ : DL.Env} {e : Expr} {Φ : Ow → Cell → Prop} (h : N X ω δ e fun ω1 c => ∃ p P ω0, ω1 = (p, P) :: ω0 ∧ Φ ω0 c) : N X ω δ e Φ := fun σ H Q s q =>
  h σ H Q s fun ω1 c v H1 ⟨p, P, ω0, e1, f⟩ s1 k1 o1 => by
    subst e1
    exact q ω0 c v H1 f s1.drop (k1.trans (kp_drop (P := P))) (o1.mono (kp_drop (P := P)))
theorem shaped_mk {d : PyData} (h1 : d.canLay0 = true) (h2 : d.depth ≤ 64) : SeqAt.shaped d = true := by
  unfold SeqAt.shaped
  rw [h1, decide_eq_true h2]; rfl
theorem take_filter {ds : List PyData} {i : Nat} {d : PyData} {f : PyData → Bool} (h : ds[i]? = some d) : (ds.take (i + 1)).filter f = (ds.take i).filter f ++ if f d = true then [d] else [] := by
  rw [List.take_add_one, h, List.filter_append]
  congr 1
  show List.filter f [d] = _
  rw [List.filter_cons]
  split <;> rfl
theorem take_map {ds : List PyData} {i : Nat} {d : PyData} {f : PyData → PyData} (h : ds[i]? = some d) : (ds.take (i + 1)).map f = (ds.take i).map f ++ [f d] := by
  rw [List.take_add_one, h, List.map_append]
  rfl
end DL

namespace DL
open PySem PySem.Spec L2
/-! ## the first owned list let go within a block -/
theorem b_share (i : Nat) {X : Cx} {ω : Ow} {δ : DL.Env} {p : Addr} {ds : List PyData} {sts : List Stmt} {E : En} (hd : δ[i]? = some (some (.raw (.ref p)))) (h : B X ω (δ.set i (some (.dat (.list ds)))) sts E) : B X ((p, lstP ds) :: ω) δ sts E := fun σ H D s f => by
  obtain ⟨v, h1, h2⟩ := s.get hd
  cases h2
  have own := own_lst s.own
  have e : σ.set i (some (.ref p)) = σ := by
    apply List.ext_getElem?
    intro j
    rw [List.getElem?_set]
    split
    · rename_i q
      subst q
      rw [if_pos (List.getElem?_eq_some_iff.mp h1).1, h1]
    · rfl
  have s2 := s.drop.store i (c := .dat (.list ds)) own
  rw [e] at s2
  exact h σ H D s2 (f.after (kp_drop (P := lstP ds)))
/-! ## sizes of what is put together -/
theorem lenA_append : ∀ a b : List PyData, lenA (a ++ b) = lenA a + lenA b
  | [], b => by simp [lenA]
  | x :: a, b => by
    show lenB x + 2 + lenA (a ++ b) = lenB x + 2 + lenA a + lenA b
    rw [lenA_append a b]; omega
theorem show_append : ∀ a b : List PyData, PyData.showableAll (a ++ b) = (PyData.showableAll a && PyData.showableAll b)
  | [], b => rfl
  | x :: a, b => by
    show (x.showable && PyData.showableAll (a ++ b)) = ((x.showable && PyData.showableAll a) && PyData.showableAll b)
    rw [show_append a b, Bool.and_assoc]
theorem depth_append : ∀ (a b : List PyData) {n : Nat}, PyData.depthAll (a ++ b) ≤ n ↔ PyData.depthAll a ≤ n ∧ PyData.depthAll b ≤ n
  | [], b, n => by simp [PyData.depthAll]
  | x :: a, b, n => by
    have := depth_append a b (n := n)
    simp only [List.cons_append, PyData.depthAll, Nat.max_le]
    rw [this, and_assoc]
/-- items that are shown: their sum, their depth -/
structure ShowsA (n k : Nat) (ds : List PyData) : Prop where
  ok : PyData.showableAll ds = true
  dp : PyData.depthAll ds ≤ k
  sz : lenA ds ≤ n
theorem ShowsA.app {n m k : Nat} {a b : List PyData} (h1 : ShowsA n k a) (h2 : ShowsA m k b) : ShowsA (n + m) k (a ++ b) :=
  ⟨by rw [show_append, h1.ok, h2.ok]; rfl, (depth_append a b).mpr ⟨h1.dp, h2.dp⟩, by rw [lenA_append]; exact Nat.add_le_add h1.sz h2.sz⟩
theorem ShowsA.nil {k : Nat} : ShowsA 0 k [] := ⟨rfl, Nat.zero_le _, Nat.le_refl _⟩
theorem ShowsA.one {n k : Nat} {d : PyData} (h : ShowsN n d) (hk : d.depth ≤ k) : ShowsA (n + 2) k [d] :=
  ⟨by show (d.showable && true) = true; rw [h.ok]; rfl, by simp only [PyData.depthAll]; omega, by show lenB d + 2 + 0 ≤ n + 2; have := h.sz; omega⟩
theorem ShowsA.parts {n k : Nat} {a b : List PyData} (h : ShowsA n k (a ++ b)) : ∃ n1 n2, n1 + n2 ≤ n ∧ ShowsA n1 k a ∧ ShowsA n2 k b := by
  have h1 := h.ok
  rw [show_append, Bool.and_eq_true] at h1
  have h2 := (depth_append a b).mp h.dp
  have h3 := h.sz
  rw [lenA_append] at h3
  exact ⟨lenA a, lenA b, h3, ⟨h1.1, h2.1, Nat.le_refl _⟩, ⟨h1.2, h2.2, Nat.le_refl _⟩⟩
theorem ShowsA.mono {n m k j : Nat} {a : List PyData} (h : ShowsA n k a) (l : n ≤ m) (l2 : k ≤ j) : ShowsA m j a := ⟨h.ok, Nat.le_trans h.dp l2, Nat.le_trans h.sz l⟩
theorem ShowsA.tuple {n k : Nat} {a : List PyData} (h : ShowsA n k a) (hk : k < 60) : ShowsN (4 + n) (.tuple a) ∧ (PyData.tuple a).depth ≤ k + 1 :=
  ⟨⟨h.ok, by simp only [PyData.depth]; have := h.dp; omega, Nat.add_le_add_left h.sz 4⟩, by simp only [PyData.depth]; have := h.dp; omega⟩
theorem ShowsA.list {n k : Nat} {a : List PyData} (h : ShowsA n k a) (hk : k < 60) : ShowsN (2 + n) (.list a) ∧ (PyData.list a).depth ≤ k + 1 :=
  ⟨⟨h.ok, by simp only [PyData.depth]; have := h.dp; omega, Nat.add_le_add_left h.sz 2⟩, by simp only [PyData.depth]; have := h.dp; omega⟩
theorem shows_mem : ∀ {ds : List PyData} {n k : Nat} {d : PyData}, ShowsA n k ds → k ≤ 60 → d ∈ ds → ShowsN n d ∧ d.depth ≤ k := by
  intro ds n k d h hk hd
  obtain ⟨a, b, rfl⟩ := List.append_of_mem hd
  obtain ⟨n1, n2, l, h1, h2⟩ := h.parts
  have h3 : ShowsA n2 k ([d] ++ b) := h2
  obtain ⟨m1, m2, l2, g1, g2⟩ := h3.parts
  have e1 : (d.showable && true) = true := g1.ok
  have e2 := g1.dp
  have e3 : lenB d + 2 + 0 ≤ m1 := g1.sz
  simp only [PyData.depthAll] at e2
  exact ⟨⟨by simpa using e1, by omega, by omega⟩, by omega⟩
/-- an owned list, cut: a new datum; its length -/
theorem n_slO (i n : Nat) {X : Cx} {ω : Ow} {δ : DL.Env} {p : Addr} {x : Str} {Φ : Ow → Cell → Prop} {pos p1 p2 : Pos} {lo hi : Option Expr} (hd : δ[i]? = some (some (.raw (.ref p))))
    (h : NO X ω δ lo fun ω2 a => NO X ω2 δ hi fun ω3 b => ∃ ds, ω3[n]? = some (p, lstP ds) ∧ Φ ω3 (.dat (.list (cutD ds a b)))) (hN : X.N[i]? = some x := by rfl)
    (hv : Vis X.env.scope x := by first | exact Or.inl rfl | exact Or.inr (Or.inl rfl) | exact Or.inr (Or.inr rfl)) (hg : (x == ("__debug__" : Str)) = false := by decide) (hcd : (x == ("__classdict__" : Str)) = false := by decide) : N X ω δ (.Subscript (.Name x p1) (.Slice lo hi none p2) pos) Φ :=
  n_lift (pe_slice sl_list (pe_var hN hv hg hcd) (WO.po X lo) (WO.po X hi)) fun σ H Q s q => by
    obtain ⟨v, h1, h2⟩ := s.get hd
    cases h2
    refine ⟨_, h1, h.run σ H _ s fun ω2 a H2 f2 s2 k2 => f2.run σ H2 _ s2 fun ω3 b H3 ⟨ds, hw, f3⟩ s3 k3 => ?_⟩
    obtain ⟨u, g1, vs, rfl, g2⟩ := s3.own.at_ p _ (List.mem_of_getElem? hw)
    exact ⟨_, _, rfl, SqL.of g1, fun l hl => q ω3 _ _ _ f3 (s3.new hl) (k2.trans (k3.trans (kp_new s3.own hl))) (new_lst s3.own hl (cut_rp g2 a b))⟩
end DL

namespace DL
open PySem PySem.Spec L2
/-! ## comprehensions over a tuple -/
section
variable {X : Cx} {ω : Ow} {δ : Env} {e a b c elt iter : Expr} {Φ : Ow → Cell → Prop} {pos p1 p2 p3 : Pos} {x : Str} {scope : Scope}
theorem t_lcT (j : Nat)
    (h : N X ω δ iter fun ω1 c => ∃ ds, c = .dat (.tuple ds) ∧ ∃ J : Nat → Ow → List PyData → Prop, J 0 ω1 [] ∧
      (∀ i ω2 acc D d0, ds[i]? = some d0 → J i ω2 acc → BlkF X scope fun Y => N Y ((D, lstP acc) :: ω2) ((δ.set j none).set j (some (.dat d0))) elt fun ω3 c => ∃ d, c = .dat d ∧ acc.length < 100000 ∧ ∃ ω4, ω3 = (D, lstP acc) :: ω4 ∧ J (i + 1) ω4 (acc ++ [d])) ∧
      ∀ ω2 acc, J ds.length ω2 acc → Φ ω2 (.dat (.list acc))) {σ : St} {H : Hp} {Q : VK} (s : StOk X.K ω δ σ H) (q : ∀ ω' c v H', Φ ω' c → StOk X.K ω' δ σ H' → Kp (dom ω) H (dom ω') H' → CellOk X.K (dom ω') H' v c → Q v H') :
    tLc (iTup X.K (WE X iter)) (gName j) tYes (fun σ H Q => BlkF X scope fun Y => WE Y elt σ H Q) [j] σ H Q :=
  h σ H _ s fun ω1 c v H1 ⟨ds, e1, J, j0, jt, je⟩ s1 k1 o1 => by
    subst e1
    cases o1 with
    | @tup l xs _ hl hr =>
      refine ⟨l, rfl, ⟨xs, sqt_hid hl⟩, fun D hD => ?_⟩
      have hD0 : (lstP []).ok X.K (hid (dom ω1) H1) (.lst []) := ⟨[], rfl, .nil⟩
      refine lc_tup (K := X.K) (a := l) (xs := xs) (g := gName j) (tt := tYes) (te := fun σ H Q => BlkF X scope fun Y => WE Y elt σ H Q) (vs := [j]) (σ := σ) (H1 := H1) (D := D) (Qd := fun H => Q (.ref D) H) (fun i H' => ∃ ω2 acc, J i ω2 acc ∧ StOk X.K ((D, lstP acc) :: ω2) δ σ H' ∧ Kp (dom ω1) H1 (D :: dom ω2) H') ⟨ω1, [], j0, s1.cons hD hD0, (s1.own.cons hD hD0).2⟩ ?_ ?_ ?_
      · rintro i H' _ ⟨ω2, acc, _, _, k2⟩
        exact sqt_hid (seqT k2 hl)
      · rintro i y H' hy ⟨ω2, acc, hJ, s2, k2⟩
        refine ⟨set_wipe, fun s3 H3 C cl fp => ?_⟩
        obtain ⟨d0, hd0, rd0⟩ := hr.get' hy
        have sB : StOk X.K ((D, lstP acc) :: ω2) ((δ.set j none).set j (some (.dat d0))) ((wipe σ [j]).set j (some y)) H' := ⟨(s2.env.wipe j).set (c := .dat d0) (rd0.mono k2) j, s2.own⟩
        refine jt i ω2 acc D d0 hd0 hJ s3 H3 C cl fp _ _ _ sB fun ω3 c v H4 ⟨d, e1, hz, ω4, e2, hJ'⟩ s4 k4 o4 => ?_
        subst e1; subst e2
        obtain ⟨u, m1, vs, rfl, m2⟩ := s4.own.at_ D _ List.mem_cons_self
        have ho : (lstP (acc ++ [d])).ok X.K (hid (dom ((D, lstP acc) :: ω4)) H4) (.lst (vs ++ [v])) := ⟨_, rfl, m2.append (.cons o4 .nil)⟩
        refine ⟨vs, m1, by rw [m2.len]; exact Nat.lt_of_lt_of_le hz (by decide), ω4, _, hJ', ?_, (k2.trans k4).trans (kp_upd List.mem_cons_self)⟩
        have oo := s4.own.put (i := 0) (p := D) (P := lstP acc) rfl ho
        exact ⟨s2.env.mono (k4.trans (kp_upd List.mem_cons_self)), oo⟩
      · rintro H' ⟨ω2, acc, hJ, s2, k2⟩
        rw [hr.len] at hJ
        exact q ω2 _ _ H' (je ω2 acc hJ) s2.drop (k1.trans (k2.trans (kp_drop (P := lstP acc)))) (own_lst s2.own)

theorem n_lcT (j : Nat) (hc : X.calm = true) (hn : X.N.Nodup) (hb : BlkOk X.N X.env.scope scope [(x, j)])
    (h : N X ω δ iter fun ω1 c => ∃ ds, c = .dat (.tuple ds) ∧ ∃ J : Nat → Ow → List PyData → Prop, J 0 ω1 [] ∧
      (∀ i ω2 acc D d0, ds[i]? = some d0 → J i ω2 acc → BlkF X scope fun Y => N Y ((D, lstP acc) :: ω2) ((δ.set j none).set j (some (.dat d0))) elt fun ω3 c => ∃ d, c = .dat d ∧ acc.length < 100000 ∧ ∃ ω4, ω3 = (D, lstP acc) :: ω4 ∧ J (i + 1) ω4 (acc ++ [d])) ∧
      ∀ ω2 acc, J ds.length ω2 acc → Φ ω2 (.dat (.list acc)))
    (hgt : BlkF X scope fun Y => PG Y (.Name x p1) (gName j)) (hs : ∀ y, foldedSetIterable iter X.env y = pure y := by intro _; rfl) : N X ω δ (.ListComp elt [{ target := .Name x p1, iter := iter, ifs := [], is_async := 0 }] scope pos) Φ :=
  n_lift (pe_lc (own := [(x, j)]) (g := gName j) (te := fun σ H Q => BlkF X scope fun Y => WE Y elt σ H Q) hc hn (pi_tup (WE.pe X iter)) hb hgt (fun _ _ _ _ _ => pts_nil) (fun s H C cl fp => ⟨fun pins s' σ' H' Q I q => q s H C cl fp pins s' I⟩) hs) fun σ H Q s q => t_lcT j h s q

theorem s_lcT (i j : Nat) {y : Str} {py spos : Pos} {E : En} (hc : X.calm = true) (hn : X.N.Nodup) (hb : BlkOk X.N X.env.scope scope [(x, j)])
    (h : N X ω δ iter fun ω1 c => ∃ ds, c = .dat (.tuple ds) ∧ ∃ J : Nat → Ow → List PyData → Prop, J 0 ω1 [] ∧
      (∀ i ω2 acc D d0, ds[i]? = some d0 → J i ω2 acc → BlkF X scope fun Y => N Y ((D, lstP acc) :: ω2) ((δ.set j none).set j (some (.dat d0))) elt fun ω3 c => ∃ d, c = .dat d ∧ acc.length < 100000 ∧ ∃ ω4, ω3 = (D, lstP acc) :: ω4 ∧ J (i + 1) ω4 (acc ++ [d])) ∧
      ∀ ω2 acc, J ds.length ω2 acc → E.nx ω2 (δ.set i (some (.dat (.list acc)))))
    (hgt : BlkF X scope fun Y => PG Y (.Name x p1) (gName j)) (hs : ∀ y, foldedSetIterable iter X.env y = pure y := by intro _; rfl)
    (hyN : X.N[i]? = some y := by rfl) (hyl : X.env.scope.names.lookup y = some .local := by rfl) (hkd : X.env.scope.kind = .function := by rfl) (hpl : (py.line == pos.line) = true := by rfl) (hfr : (scope.names.any fun (n, k) => n == y && (k == .local || k == .cell)) = false := by decide +kernel) : S X ω δ (.Assign [.Name y py] (.ListComp elt [{ target := .Name x p1, iter := iter, ifs := [], is_async := 0 }] scope pos) spos) E := fun σ H D s f =>
  WS.of (ps_setLc (i := i) (own := [(x, j)]) (g := gName j) (te := fun σ H Q => BlkF X scope fun Y => WE Y elt σ H Q) hc hn hyN hyl (sw_true hkd hyl hpl hfr) (pi_tup (WE.pe X iter)) hb hgt (fun _ _ _ _ _ => pts_nil) (fun s H C cl fp => ⟨fun pins s' σ' H' Q I q => q s H C cl fp pins s' I⟩) hs) (t_lcT (Φ := fun ω1 c => E.nx ω1 (δ.set i (some c))) j h s fun ω1 c v H1 q s1 k1 o1 => f.nx ω1 _ _ H1 q (s1.store i o1) k1)

theorem t_lcTi (j : Nat) {test : Expr}
    (h : N X ω δ iter fun ω1 c => ∃ ds, c = .dat (.tuple ds) ∧ ∃ J : Nat → Ow → List PyData → Prop, J 0 ω1 [] ∧
      (∀ i ω2 acc D d0, ds[i]? = some d0 → J i ω2 acc → BlkF X scope fun Y => NT Y ((D, lstP acc) :: ω2) ((δ.set j none).set j (some (.dat d0))) test fun ω3 k =>
        if k = true then BlkF X scope fun Y => N Y ω3 ((δ.set j none).set j (some (.dat d0))) elt fun ω3 c => ∃ d, c = .dat d ∧ acc.length < 100000 ∧ ∃ ω4, ω3 = (D, lstP acc) :: ω4 ∧ J (i + 1) ω4 (acc ++ [d]) else ∃ ω4, ω3 = (D, lstP acc) :: ω4 ∧ J (i + 1) ω4 acc) ∧
      ∀ ω2 acc, J ds.length ω2 acc → Φ ω2 (.dat (.list acc))) {σ : St} {H : Hp} {Q : VK} (s : StOk X.K ω δ σ H) (q : ∀ ω' c v H', Φ ω' c → StOk X.K ω' δ σ H' → Kp (dom ω) H (dom ω') H' → CellOk X.K (dom ω') H' v c → Q v H') :
    tLc (iTup X.K (WE X iter)) (gName j) (fun σ H Q => BlkF X scope fun Y => WT Y test σ H Q) (fun σ H Q => BlkF X scope fun Y => WE Y elt σ H Q) [j] σ H Q :=
  h σ H _ s fun ω1 c v H1 ⟨ds, e1, J, j0, jt, je⟩ s1 k1 o1 => by
    subst e1
    cases o1 with
    | @tup l xs _ hl hr =>
      refine ⟨l, rfl, ⟨xs, sqt_hid hl⟩, fun D hD => ?_⟩
      have hD0 : (lstP []).ok X.K (hid (dom ω1) H1) (.lst []) := ⟨[], rfl, .nil⟩
      refine lc_tup (K := X.K) (a := l) (xs := xs) (g := gName j) (tt := fun σ H Q => BlkF X scope fun Y => WT Y test σ H Q) (te := fun σ H Q => BlkF X scope fun Y => WE Y elt σ H Q) (vs := [j]) (σ := σ) (H1 := H1) (D := D) (Qd := fun H => Q (.ref D) H) (fun i H' => ∃ ω2 acc, J i ω2 acc ∧ StOk X.K ((D, lstP acc) :: ω2) δ σ H' ∧ Kp (dom ω1) H1 (D :: dom ω2) H') ⟨ω1, [], j0, s1.cons hD hD0, (s1.own.cons hD hD0).2⟩ ?_ ?_ ?_
      · rintro i H' _ ⟨ω2, acc, _, _, k2⟩
        exact sqt_hid (seqT k2 hl)
      · rintro i y H' hy ⟨ω2, acc, hJ, s2, k2⟩
        refine ⟨set_wipe, fun s3 H3 C cl fp => ?_⟩
        obtain ⟨d0, hd0, rd0⟩ := hr.get' hy
        have sB : StOk X.K ((D, lstP acc) :: ω2) ((δ.set j none).set j (some (.dat d0))) ((wipe σ [j]).set j (some y)) H' := ⟨(s2.env.wipe j).set (c := .dat d0) (rd0.mono k2) j, s2.own⟩
        refine jt i ω2 acc D d0 hd0 hJ s3 H3 C cl fp _ _ _ sB fun ω5 k H5 f5 s5 k5 => ?_
        cases k with
        | true =>
          refine fun s6 H6 C6 cl6 fp6 => f5 s6 H6 C6 cl6 fp6 _ _ _ s5 fun ω3 c v H4 ⟨d, e1, hz, ω4, e2, hJ'⟩ s4 k4 o4 => ?_
          subst e1; subst e2
          obtain ⟨u, m1, vs, rfl, m2⟩ := s4.own.at_ D _ List.mem_cons_self
          have ho : (lstP (acc ++ [d])).ok X.K (hid (dom ((D, lstP acc) :: ω4)) H4) (.lst (vs ++ [v])) := ⟨_, rfl, m2.append (.cons o4 .nil)⟩
          refine ⟨vs, m1, by rw [m2.len]; exact Nat.lt_of_lt_of_le hz (by decide), ω4, _, hJ', ?_, (k2.trans (k5.trans k4)).trans (kp_upd List.mem_cons_self)⟩
          have oo := s4.own.put (i := 0) (p := D) (P := lstP acc) rfl ho
          exact ⟨s2.env.mono ((k5.trans k4).trans (kp_upd List.mem_cons_self)), oo⟩
        | false =>
          obtain ⟨ω4, e2, hJ'⟩ := f5
          subst e2
          exact ⟨ω4, acc, hJ', ⟨s2.env.mono k5, s5.own⟩, k2.trans k5⟩
      · rintro H' ⟨ω2, acc, hJ, s2, k2⟩
        rw [hr.len] at hJ
        exact q ω2 _ _ H' (je ω2 acc hJ) s2.drop (k1.trans (k2.trans (kp_drop (P := lstP acc)))) (own_lst s2.own)

theorem n_lcTi (j : Nat) {test : Expr} (hc : X.calm = true) (hn : X.N.Nodup) (hb : BlkOk X.N X.env.scope scope [(x, j)])
    (h : N X ω δ iter fun ω1 c => ∃ ds, c = .dat (.tuple ds) ∧ ∃ J : Nat → Ow → List PyData → Prop, J 0 ω1 [] ∧
      (∀ i ω2 acc D d0, ds[i]? = some d0 → J i ω2 acc → BlkF X scope fun Y => NT Y ((D, lstP acc) :: ω2) ((δ.set j none).set j (some (.dat d0))) test fun ω3 k =>
        if k = true then BlkF X scope fun Y => N Y ω3 ((δ.set j none).set j (some (.dat d0))) elt fun ω3 c => ∃ d, c = .dat d ∧ acc.length < 100000 ∧ ∃ ω4, ω3 = (D, lstP acc) :: ω4 ∧ J (i + 1) ω4 (acc ++ [d]) else ∃ ω4, ω3 = (D, lstP acc) :: ω4 ∧ J (i + 1) ω4 acc) ∧
      ∀ ω2 acc, J ds.length ω2 acc → Φ ω2 (.dat (.list acc)))
    (hgt : BlkF X scope fun Y => PG Y (.Name x p1) (gName j)) (hs : ∀ y, foldedSetIterable iter X.env y = pure y := by intro _; rfl) : N X ω δ (.ListComp elt [{ target := .Name x p1, iter := iter, ifs := [test], is_async := 0 }] scope pos) Φ :=
  n_lift (pe_lc (own := [(x, j)]) (g := gName j) (tt := fun σ H Q => BlkF X scope fun Y => WT Y test σ H Q) (te := fun σ H Q => BlkF X scope fun Y => WE Y elt σ H Q) hc hn (pi_tup (WE.pe X iter)) hb hgt (fun s H C cl fp => pts_one ⟨fun pins s' σ' H' Q I q => q s H C cl fp pins s' I⟩) (fun s H C cl fp => ⟨fun pins s' σ' H' Q I q => q s H C cl fp pins s' I⟩) hs) fun σ H Q s q => t_lcTi j h s q

theorem s_lcTi (i j : Nat) {y : Str} {py spos : Pos} {E : En} {test : Expr} (hc : X.calm = true) (hn : X.N.Nodup) (hb : BlkOk X.N X.env.scope scope [(x, j)])
    (h : N X ω δ iter fun ω1 c => ∃ ds, c = .dat (.tuple ds) ∧ ∃ J : Nat → Ow → List PyData → Prop, J 0 ω1 [] ∧
      (∀ i ω2 acc D d0, ds[i]? = some d0 → J i ω2 acc → BlkF X scope fun Y => NT Y ((D, lstP acc) :: ω2) ((δ.set j none).set j (some (.dat d0))) test fun ω3 k =>
        if k = true then BlkF X scope fun Y => N Y ω3 ((δ.set j none).set j (some (.dat d0))) elt fun ω3 c => ∃ d, c = .dat d ∧ acc.length < 100000 ∧ ∃ ω4, ω3 = (D, lstP acc) :: ω4 ∧ J (i + 1) ω4 (acc ++ [d]) else ∃ ω4, ω3 = (D, lstP acc) :: ω4 ∧ J (i + 1) ω4 acc) ∧
      ∀ ω2 acc, J ds.length ω2 acc → E.nx ω2 (δ.set i (some (.dat (.list acc)))))
    (hgt : BlkF X scope fun Y => PG Y (.Name x p1) (gName j)) (hs : ∀ y, foldedSetIterable iter X.env y = pure y := by intro _; rfl)
    (hyN : X.N[i]? = some y := by rfl) (hyl : X.env.scope.names.lookup y = some .local := by rfl) (hkd : X.env.scope.kind = .function := by rfl) (hpl : (py.line == pos.line) = true := by rfl) (hfr : (scope.names.any fun (n, k) => n == y && (k == .local || k == .cell)) = false := by decide +kernel) : S X ω δ (.Assign [.Name y py] (.ListComp elt [{ target := .Name x p1, iter := iter, ifs := [test], is_async := 0 }] scope pos) spos) E := fun σ H D s f =>
  WS.of (ps_setLc (i := i) (own := [(x, j)]) (g := gName j) (tt := fun σ H Q => BlkF X scope fun Y => WT Y test σ H Q) (te := fun σ H Q => BlkF X scope fun Y => WE Y elt σ H Q) hc hn hyN hyl (sw_true hkd hyl hpl hfr) (pi_tup (WE.pe X iter)) hb hgt (fun s H C cl fp => pts_one ⟨fun pins s' σ' H' Q I q => q s H C cl fp pins s' I⟩) (fun s H C cl fp => ⟨fun pins s' σ' H' Q I q => q s H C cl fp pins s' I⟩) hs) (t_lcTi (Φ := fun ω1 c => E.nx ω1 (δ.set i (some c))) j h s fun ω1 c v H1 q s1 k1 o1 => f.nx ω1 _ _ H1 q (s1.store i o1) k1)
end
theorem cut2 {α : Type} (a b : α) (r : List α) : cutD (a :: b :: r) (some 2) none = r := by
  unfold cutD
  rw [show HT.sIx (a :: b :: r).length 0 (some 2) = min 2 (a :: b :: r).length from HT.sIx_nat _ 0 2, HT.sIx_none]
  have : min 2 (a :: b :: r).length = 2 := by rw [List.length_cons, List.length_cons]; omega
  rw [this]
  show List.take ((a :: b :: r).length - 2) r = r
  exact List.take_of_length_le (by simp)
theorem cut1 {α : Type} (a : α) (r : List α) : cutD (a :: r) none (some 1) = [a] := by
  unfold cutD
  rw [show HT.sIx (a :: r).length (a :: r).length (some 1) = min 1 (a :: r).length from HT.sIx_nat _ _ 1, HT.sIx_none]
  have : min 1 (a :: r).length = 1 := by rw [List.length_cons]; omega
  rw [this]
  rfl
end DL

namespace DL
open PySem PySem.Spec L2
/-! ## == of a list with the empty one -/
def rLens : R2 := fun x y H Q => ∃ a b xs ys, x = .ref a ∧ y = .ref b ∧ H a = some (.lst xs) ∧ H b = some (.lst ys) ∧ xs.length ≠ ys.length ∧ Q (.bl false) H
def rEqE (K : PySem.W.Frag) : R2 := fun x y H Q => rEqD K x y H Q ∨ rLens x y H Q
section
variable {X : Cx} {ω : Ow} {δ : Env} {a b : Expr} {pos : Pos}
theorem op_lens (hu : X.A.units + 64 < cLine) : OpR X (compareOp .Eq) rLens := by
  intro pins s σ H x y v u Q I rx ry h
  obtain ⟨a, b, xs, ys, rfl, rfl, ea, eb, hl, q⟩ := h
  cases rx
  cases ry
  obtain ⟨z, its, k, r, e⟩ := I.hok a _ ea
  obtain ⟨z2, its2, k2, r2, e2⟩ := I.hok b _ eb
  have hs : (its.toArray.size != its2.toArray.size) = true := by
    rw [List.size_toArray, List.size_toArray, ← r.length, ← r2.length]; simpa using hl
  exact SeqAt.RcAt.lists_lengths (A := X.A) ⟨_, e, rfl, _, rfl⟩ ⟨_, e2, rfl, _, rfl⟩ hs (by omega) X.prog X.w _ _ ⟨.bl _, H, I, rfl, q⟩
theorem op_eqE (hu : X.A.units + 64 < cLine) : OpR X (compareOp .Eq) (rEqE X.K) := by
  intro pins s σ H x y v u Q I rx ry h
  rcases h with h | h
  · exact op_eqD hu _ _ _ _ _ _ _ _ _ I rx ry h
  · exact op_lens hu _ _ _ _ _ _ _ _ _ I rx ry h
theorem op2_eqE {Φ : Ow → Cell → Prop} {c1 c2 : Cell} (h : ∃ ds, c1 = .dat (.list ds) ∧ c2 = .dat (.list []) ∧ Φ ω (.dat (.bool (decide (ds = []))))) : Op2 X (rEqE X.K) ω δ c1 c2 Φ := fun x y σ H Q s o1 o2 q => by
  obtain ⟨ds, e1, e2, f⟩ := h
  subst e1; subst e2
  cases ds with
  | nil =>
    exact Or.inl ⟨_, _, dp_of rfl (Rp.mono hid_same o1), dp_of rfl (Rp.mono hid_same o2), rfl, rfl, q ω _ _ H f s (Kp.refl _ _) (Rp.bl _)⟩
  | cons d ds =>
    obtain ⟨h1⟩ | ⟨⟩ := Rp.mono hid_same o1
    obtain ⟨h2⟩ | ⟨⟩ := Rp.mono hid_same o2
    rename_i r1 _ _ _ r2
    refine Or.inr ⟨_, _, _, _, rfl, rfl, by assumption, by assumption, ?_, q ω _ _ H f s (Kp.refl _ _) (Rp.bl _)⟩
    cases r1; cases r2
    simp
theorem n_eqE (hu : X.A.units + 64 < cLine) {Φ : Ow → Cell → Prop} (h : N X ω δ a fun ω1 c1 => N X ω1 δ b fun ω2 c2 => ∃ ds, c1 = .dat (.list ds) ∧ c2 = .dat (.list []) ∧ Φ ω2 (.dat (.bool (decide (ds = []))))) : N X ω δ (.Compare a [.Eq] [b] pos) Φ :=
  n_cop (op_eqE hu) (nomark _) (h.imp fun _ _ h1 => h1.imp fun _ _ h2 => op2_eqE h2)
/-- a, b = a tuple of two -/
theorem s_unp {E : En} {e : Expr} (i j : Nat) {x y : Str} {px py pt : Pos} {kt : Nat} (hc : X.calm = true) (hN : X.N.Nodup) (h : N X ω δ e fun ω1 c => ∃ d1 d2, c = .dat (.tuple [d1, d2]) ∧ E.nx ω1 ((δ.set i (some (.dat d1))).set j (some (.dat d2))))
    (hi : X.N[i]? = some x := by rfl) (hj : X.N[j]? = some y := by rfl) (hx : Loc X.env.scope x := by first | exact Or.inl rfl | exact Or.inr rfl) (hy : Loc X.env.scope y := by first | exact Or.inl rfl | exact Or.inr rfl)
    (hf : X.fn x = true ∨ X.env.scope.names.lookup x = some .local := by first | exact .inl rfl | exact .inr rfl | assumption) (hg : X.fn y = true ∨ X.env.scope.names.lookup y = some .local := by first | exact .inl rfl | exact .inr rfl | assumption)
    (hs : swapsWithSole [.Tuple [.Name x px, .Name y py] kt pt] e pos.line X.env = pure false := by rfl) (hw : swappedStores [.Tuple [.Name x px, .Name y py] kt pt] e X.env = pure none := by rfl)
    (h1 : (assignEach [.Tuple [.Name x px, .Name y py] kt pt] X.env).map (·.2) = [assign (.Tuple [.Name x px, .Name y py] kt pt) X.env] := by rfl)
    (h2 : (assignEach [.Name x px, .Name y py] X.env).map (·.2) = assign (.Name x px) X.env :: (assignEach [.Name y py] X.env).map (·.2) := by rfl) (h3 : (assignEach [.Name y py] X.env).map (·.2) = assign (.Name y py) X.env :: (assignEach [] X.env).map (·.2) := by rfl)
    (h4 : (assignEach [.Name x px, .Name y py] X.env).length = 2 := by rfl) (h5 : (assignEach [.Name x px, .Name y py] X.env).findIdx? (·.1) = none := by rfl) : S X ω δ (.Assign [.Tuple [.Name x px, .Name y py] kt pt] e pos) E := fun σ H D s f =>
  WS.of (ps_asg (WE.pe X e) (pg_tup hc (pgs_cons (pg_name hN hi hx hf) (pgs_cons (pg_name hN hj hy hg) pgs_nil h3) h2) h4 h5) hs hw h1) (h σ H _ s fun ω1 c v H1 ⟨d1, d2, e1, q⟩ s1 k1 o1 => by
    subst e1
    cases o1 with
    | tup sq ra =>
      cases ra with
      | cons r1 ra =>
        cases ra with
        | cons r2 ra =>
          cases ra
          have sq' : SqT X.K H1 _ _ := sq.imp (fun z => rd_hid z) id
          exact ⟨_, _, rfl, sq', rfl, _, _, rfl, _, _, rfl, rfl, f.nx ω1 _ _ H1 q ((s1.store i (c := .dat d1) r1).store j (c := .dat d2) r2) k1⟩)
end
end DL

namespace K12
open PySem PySem.Spec L2 DL
def top (i : Nat) : Stmt := PySem.Challenge.pw_longsheet_k12_names_known.main.body.getD i (.Pass ⟨0, 0, 0, 0⟩)
abbrev s_is_integer : Stmt := top 1
abbrev N_is_integer : List Str := ["thing"]
theorem sc_is_integer : FnScope N_is_integer ["thing"] (defScope s_is_integer) := ⟨rfl, rfl, rfl, by decide +kernel, rfl, by decide +kernel, by decide +kernel⟩
abbrev s_is_made : Stmt := top 3
abbrev N_is_made : List Str := ["thing", "word", "many"]
theorem sc_is_made : FnScope N_is_made ["thing", "word", "many"] (defScope s_is_made) := ⟨rfl, rfl, rfl, by decide +kernel, rfl, by decide +kernel, by decide +kernel⟩
abbrev s_is_name : Stmt := top 4
abbrev N_is_name : List Str := ["thing"]
theorem sc_is_name : FnScope N_is_name ["thing"] (defScope s_is_name) := ⟨rfl, rfl, rfl, by decide +kernel, rfl, by decide +kernel, by decide +kernel⟩
abbrev s_is_range : Stmt := top 5
abbrev N_is_range : List Str := ["thing"]
theorem sc_is_range : FnScope N_is_range ["thing"] (defScope s_is_range) := ⟨rfl, rfl, rfl, by decide +kernel, rfl, by decide +kernel, by decide +kernel⟩
abbrev s_column_of : Stmt := top 6
abbrev N_column_of : List Str := ["read", "column", "part"]
theorem sc_column_of : FnScope N_column_of ["read", "column"] (defScope s_column_of) := ⟨rfl, rfl, rfl, by decide +kernel, rfl, by decide +kernel, by decide +kernel⟩
abbrev s_with_column : Stmt := top 7
abbrev N_with_column : List Str := ["read", "part"]
theorem sc_with_column : FnScope N_with_column ["read", "part"] (defScope s_with_column) := ⟨rfl, rfl, rfl, by decide +kernel, rfl, by decide +kernel, by decide +kernel⟩
abbrev s__is_column_part : Stmt := top 8
abbrev N__is_column_part : List Str := ["thing"]
theorem sc__is_column_part : FnScope N__is_column_part ["thing"] (defScope s__is_column_part) := ⟨rfl, rfl, rfl, by decide +kernel, rfl, by decide +kernel, by decide +kernel⟩
abbrev s__is_row_part : Stmt := top 9
abbrev N__is_row_part : List Str := ["thing"]
theorem sc__is_row_part : FnScope N__is_row_part ["thing"] (defScope s__is_row_part) := ⟨rfl, rfl, rfl, by decide +kernel, rfl, by decide +kernel, by decide +kernel⟩
abbrev s__is_way : Stmt := top 10
abbrev N__is_way : List Str := ["thing"]
theorem sc__is_way : FnScope N__is_way ["thing"] (defScope s__is_way) := ⟨rfl, rfl, rfl, by decide +kernel, rfl, by decide +kernel, by decide +kernel⟩
abbrev s__is_count : Stmt := top 11
abbrev N__is_count : List Str := ["thing", "word"]
theorem sc__is_count : FnScope N__is_count ["thing", "word"] (defScope s__is_count) := ⟨rfl, rfl, rfl, by decide +kernel, rfl, by decide +kernel, by decide +kernel⟩
abbrev s__is_end : Stmt := top 12
abbrev N__is_end : List Str := ["thing"]
theorem sc__is_end : FnScope N__is_end ["thing"] (defScope s__is_end) := ⟨rfl, rfl, rfl, by decide +kernel, rfl, by decide +kernel, by decide +kernel⟩
abbrev s__law_bag : Stmt := top 14
abbrev N__law_bag : List Str := ["script", "cell"]
theorem sc__law_bag : FnScope N__law_bag ["script"] (defScope s__law_bag) := ⟨rfl, rfl, rfl, by decide +kernel, rfl, by decide +kernel, by decide +kernel⟩
abbrev s__law_take : Stmt := top 15
abbrev N__law_take : List Str := ["bag", "many", "cell", "mixed", "drawn", "begin", "second"]
theorem sc__law_take : FnScope N__law_take ["bag", "many"] (defScope s__law_take) := ⟨rfl, rfl, rfl, by decide +kernel, rfl, by decide +kernel, by decide +kernel⟩
abbrev s__law_one : Stmt := top 16
abbrev N__law_one : List Str := ["bag", "some"]
theorem sc__law_one : FnScope N__law_one ["bag", "some"] (defScope s__law_one) := ⟨rfl, rfl, rfl, by decide +kernel, rfl, by decide +kernel, by decide +kernel⟩
abbrev s__law_alike : Stmt := top 17
abbrev N__law_alike : List Str := ["found", "due"]
theorem sc__law_alike : FnScope N__law_alike ["found", "due"] (defScope s__law_alike) := ⟨rfl, rfl, rfl, by decide +kernel, rfl, by decide +kernel, by decide +kernel⟩
abbrev s__law_nested : Stmt := top 18
abbrev N__law_nested : List Str := ["many", "found", "k"]
theorem sc__law_nested : FnScope N__law_nested ["many"] (defScope s__law_nested) := ⟨rfl, rfl, rfl, by decide +kernel, rfl, by decide +kernel, by decide +kernel⟩
abbrev s__law_odd : Stmt := top 19
abbrev N__law_odd : List Str := ["bag", "some"]
theorem sc__law_odd : FnScope N__law_odd ["bag"] (defScope s__law_odd) := ⟨rfl, rfl, rfl, by decide +kernel, rfl, by decide +kernel, by decide +kernel⟩
abbrev s__law_column_part : Stmt := top 20
abbrev N__law_column_part : List Str := ["bag", "kind"]
theorem sc__law_column_part : FnScope N__law_column_part ["bag"] (defScope s__law_column_part) := ⟨rfl, rfl, rfl, by decide +kernel, rfl, by decide +kernel, by decide +kernel⟩
abbrev s__law_range : Stmt := top 21
abbrev N__law_range : List Str := ["bag", "place", "low", "high"]
theorem sc__law_range : FnScope N__law_range ["bag", "place"] (defScope s__law_range) := ⟨rfl, rfl, rfl, by decide +kernel, rfl, by decide +kernel, by decide +kernel⟩
abbrev s__law_name : Stmt := top 22
abbrev N__law_name : List Str := ["bag", "place", "kind", "row"]
theorem sc__law_name : FnScope N__law_name ["bag", "place"] (defScope s__law_name) := ⟨rfl, rfl, rfl, by decide +kernel, rfl, by decide +kernel, by decide +kernel⟩
abbrev s__law_is_whole : Stmt := top 23
abbrev N__law_is_whole : List Str := ["thing"]
theorem sc__law_is_whole : FnScope N__law_is_whole ["thing"] (defScope s__law_is_whole) := ⟨rfl, rfl, rfl, by decide +kernel, rfl, by decide +kernel, by decide +kernel⟩
abbrev s__law_is_part : Stmt := top 24
abbrev N__law_is_part : List Str := ["thing"]
theorem sc__law_is_part : FnScope N__law_is_part ["thing"] (defScope s__law_is_part) := ⟨rfl, rfl, rfl, by decide +kernel, rfl, by decide +kernel, by decide +kernel⟩
abbrev s__law_is_name : Stmt := top 25
abbrev N__law_is_name : List Str := ["thing", "row"]
theorem sc__law_is_name : FnScope N__law_is_name ["thing"] (defScope s__law_is_name) := ⟨rfl, rfl, rfl, by decide +kernel, rfl, by decide +kernel, by decide +kernel⟩
abbrev s__law_is_range : Stmt := top 26
abbrev N__law_is_range : List Str := ["thing", "one"]
theorem sc__law_is_range : FnScope N__law_is_range ["thing"] (defScope s__law_is_range) := ⟨rfl, rfl, rfl, by decide +kernel, rfl, by decide +kernel, by decide +kernel⟩
abbrev s__law_bent : Stmt := top 27
abbrev N__law_bent : List Str := ["bag", "thing", "kind", "found", "at", "some"]
theorem sc__law_bent : FnScope N__law_bent ["bag", "thing"] (defScope s__law_bent) := ⟨rfl, rfl, rfl, by decide +kernel, rfl, by decide +kernel, by decide +kernel⟩
abbrev s__law_due : Stmt := top 28
abbrev N__law_due : List Str := ["part", "column"]
theorem sc__law_due : FnScope N__law_due ["part", "column"] (defScope s__law_due) := ⟨rfl, rfl, rfl, by decide +kernel, rfl, by decide +kernel, by decide +kernel⟩
abbrev s__law_columns_right : Stmt := top 29
abbrev N__law_columns_right : List Str := ["read", "part", "column", "other", "again"]
theorem sc__law_columns_right : FnScope N__law_columns_right ["read", "part", "column"] (defScope s__law_columns_right) := ⟨rfl, rfl, rfl, by decide +kernel, rfl, by decide +kernel, by decide +kernel⟩
abbrev s_law : Stmt := top 30
abbrev N_law : List Str := ["script", "bag", "turn", "place", "thing", "due", "shown", "again"]
theorem sc_law : FnScope N_law ["script"] (defScope s_law) := ⟨rfl, rfl, rfl, by decide +kernel, rfl, by decide +kernel, by decide +kernel⟩
structure Txt (K : PySem.W.Frag) (mg : Str → Option Value) : Prop where
  is_integer_ : Has K mg "is_integer" s_is_integer ["thing"]
  is_made_ : Has K mg "is_made" s_is_made ["thing", "word", "many"]
  is_name_ : Has K mg "is_name" s_is_name ["thing"]
  is_range_ : Has K mg "is_range" s_is_range ["thing"]
  column_of_ : Has K mg "column_of" s_column_of ["read", "column"]
  with_column_ : Has K mg "with_column" s_with_column ["read", "part"]
  _is_column_part_ : Has K mg "_is_column_part" s__is_column_part ["thing"]
  _is_row_part_ : Has K mg "_is_row_part" s__is_row_part ["thing"]
  _is_way_ : Has K mg "_is_way" s__is_way ["thing"]
  _is_count_ : Has K mg "_is_count" s__is_count ["thing", "word"]
  _is_end_ : Has K mg "_is_end" s__is_end ["thing"]
  _law_bag_ : Has K mg "_law_bag" s__law_bag ["script"]
  _law_take_ : Has K mg "_law_take" s__law_take ["bag", "many"]
  _law_one_ : Has K mg "_law_one" s__law_one ["bag", "some"]
  _law_alike_ : Has K mg "_law_alike" s__law_alike ["found", "due"]
  _law_nested_ : Has K mg "_law_nested" s__law_nested ["many"]
  _law_odd_ : Has K mg "_law_odd" s__law_odd ["bag"]
  _law_column_part_ : Has K mg "_law_column_part" s__law_column_part ["bag"]
  _law_range_ : Has K mg "_law_range" s__law_range ["bag", "place"]
  _law_name_ : Has K mg "_law_name" s__law_name ["bag", "place"]
  _law_is_whole_ : Has K mg "_law_is_whole" s__law_is_whole ["thing"]
  _law_is_part_ : Has K mg "_law_is_part" s__law_is_part ["thing"]
  _law_is_name_ : Has K mg "_law_is_name" s__law_is_name ["thing"]
  _law_is_range_ : Has K mg "_law_is_range" s__law_is_range ["thing"]
  _law_bent_ : Has K mg "_law_bent" s__law_bent ["bag", "thing"]
  _law_due_ : Has K mg "_law_due" s__law_due ["part", "column"]
  _law_columns_right_ : Has K mg "_law_columns_right" s__law_columns_right ["read", "part", "column"]
  law_ : Has K mg "law" s_law ["script"]
  z_isinstance : mg "isinstance" = none
  z_int : mg "int" = none
  z_bool : mg "bool" = none
  z_str : mg "str" = none
  z_tuple : mg "tuple" = none
  z_list : mg "list" = none
  z_len : mg "len" = none
  z_range : mg "range" = none
  z_abs : mg "abs" = none
  z_repr : mg "repr" = none
local macro_rules | `(tactic| walk_at "dl") => `(tactic| first
  | ((with_reducible show NA _ _ _ (_ :: _) _); refine na_cons ?_)
  | ((with_reducible show NA _ _ _ [] _); refine na_nil ?_)
  | ((with_reducible show N _ _ _ (.Constant (.int _) _ _) _); refine n_int ?_)
  | ((with_reducible show N _ _ _ (.Constant (.str _) _ _) _); refine n_str ?_)
  | ((with_reducible show N _ _ _ (.Constant (.bool _) _ _) _); refine n_bl ?_)
  | ((with_reducible show N _ _ _ (.Constant .none _ _) _); refine n_non ?_)
  | ((with_reducible show N _ _ _ (.Tuple _ _ _) _); refine n_tupU ?_)
  | ((with_reducible show N _ _ _ (.List _ _) _); refine n_lstU ?_)
  | ((with_reducible show N _ _ _ (.UnaryOp .USub _ _) _); refine n_neg ?_)
  | ((with_reducible show N _ _ _ (.BinOp _ .Pow _ _) _); refine n_pow ?_)
  | ((with_reducible show N _ _ _ (.Dict [] [] _) _); refine n_dict0 ?_)
  | ((with_reducible show N _ _ _ (.BinOp (.List _ _) .Mult _ _) _); refine n_repL ?_)
  | ((with_reducible show N _ _ _ (.BinOp (.Constant (.str _) _ _) .Mult _ _) _); refine n_repX ?_)
  | ((with_reducible show N _ _ _ (.BinOp _ .Add (.Constant (.int _) _ _) _) _); refine n_add ?_))
local macro_rules | `(tactic| walk_at "dx") => `(tactic| first
  | walk_at "dl"
  | refine ⟨_, rfl, rfl, ?_⟩
  | refine ⟨_, rfl, ?_⟩
  | refine ⟨_, _, rfl, rfl, by decide, by decide, by decide, by decide, by decide +kernel, ?_⟩
  | refine ⟨_, _, rfl, rfl, by decide, by decide, by decide, ?_⟩
  | refine ⟨_, _, rfl, rfl, ⟨by decide, by decide, by decide⟩, ?_⟩
  | refine ⟨_, _, rfl, rfl, by decide, ?_⟩
  | refine ⟨_, _, rfl, rfl, ?_⟩)

section
variable {P : Program} {w : World} {K : PySem.W.Frag} {mg : Str → Option Value} {base : Heap}
theorem cut63 (ns : List Int) : (cutD ns none (some 63)).length ≤ 63 := by
  unfold cutD
  rw [List.length_take, show HT.sIx ns.length ns.length (some 63) = min 63 ns.length from HT.sIx_nat ns.length ns.length 63]
  omega
theorem r_bag (T : Txt K mg) : Rdy P w K mg base 1 "_law_bag" ["script"] bagC := by
  refine rdy T._law_bag_ sc__law_bag (fun cs ω Φ ⟨ns, e, _⟩ => by rw [e]; rfl) fun X f cdv A outer s H E hX hr cs ω Φ ⟨ns, e, q⟩ => ?_
  subst hX; subst e
  refine b_one ?_
  refine s_ret ?_
  refine n_seal bagI ?_
  refine n_lstO ?_
  refine na_cons ?_
  refine n_int ?_
  refine na_cons ?_
  refine n_int ?_
  refine na_cons ?_
  refine n_int ?_
  refine na_cons ?_
  refine n_lcL 1 rfl sc__law_bag.nd (blkOk_by (N := N__law_bag) (sc := defScope s__law_bag) (by decide +kernel)) ?_ (fun s' H' C cl fp => pg_name (i := 1) sc__law_bag.nd rfl (Or.inl rfl))
  refine n_slS ?_
  refine n_var 0 ?_
  show N _ _ _ _ _
  refine n_int ⟨63, rfl, ns, rfl, _, rfl, fun i ω2 acc => ω2 = ω ∧ ∃ ms : List Int, acc = ms.map .int ∧ ms.length = i ∧ i ≤ 63 ∧ ∀ x ∈ ms, 0 ≤ x, ⟨rfl, [], rfl, rfl, by decide, by simp⟩, ?_, ?_⟩
  · rintro i ω2 acc D d0 hd ⟨rfl, ms, rfl, hl, hi, hm⟩ s' H' C cl fp
    rw [List.getElem?_map] at hd
    cases hq : (cutD ns none (some 63))[i]? with
    | none => rw [hq] at hd; cases hd
    | some x =>
      rw [hq] at hd
      cases hd
      have hlt : i < 63 := Nat.lt_of_lt_of_le (List.getElem?_eq_some_iff.mp hq).1 (cut63 ns)
      refine n_abs T.z_abs ?_
      refine n_var 1 ⟨x, rfl, _, rfl, by rw [List.length_map]; omega, ω2, rfl, rfl, ms ++ [if x < 0 then -x else x], by rw [List.map_append]; rfl, by rw [List.length_append, hl]; rfl, by omega, ?_⟩
      intro y hy
      rcases List.mem_append.mp hy with hy | hy
      · exact hm y hy
      · rw [List.mem_singleton.mp hy]; exact abs_nn x
  · rintro ω2 acc ⟨rfl, ms, rfl, hl, hi, hm⟩
    rw [List.length_map] at hl
    have := cut63 ns
    exact na_nil ⟨[.int 0, .int 1234567891, .int 0, .list (ms.map .int)], rfl, (by show 4 ≤ 1000; decide), fun p => ⟨p, _, ω2, rfl, ⟨0, 1234567891, 0, ms, rfl, by decide, by decide, by decide, by decide, by omega, hm⟩, q p⟩⟩
theorem r_take (T : Txt K mg) : Rdy P w K mg base 1 "_law_take" ["bag", "many"] takeC := by
  refine rdy T._law_take_ sc__law_take (fun cs ω Φ ⟨n, p, m, e, _⟩ => by rw [e]; rfl) fun X f cdv A outer s H E hX hr cs ω Φ ⟨n, p, m, e, hw, m1, m2, q⟩ => ?_
  have hu := room_u64 hr
  subst hX; subst e
  refine b_open hw fun its ⟨a, b, c, ns, e, a0, b0, b1, c0, hl, hn⟩ => ?_
  subst e
  have gs : ∀ jts, (ω.set n (p, lstP jts))[n]? = some (p, lstP jts) := fun _ => get_set hw
  have sx : ∀ jts kts, (ω.set n (p, lstP jts)).set n (p, lstP kts) = ω.set n (p, lstP kts) := fun _ _ => List.set_set ..
  -- if bag[0] == 0: ..
  refine b_mid (fun ω' δ' => ∃ (a b c : Int) (x2 x3 : Option Cell), ω' = ω.set n (p, lstP [.int a, .int b, .int c, .list (ns.map .int)]) ∧ δ' = [some (.raw (.ref p)), some (.dat (.int m)), x2, x3, none, none, none] ∧ 0 ≤ a ∧ 0 ≤ b ∧ b < 2147483647 ∧ 0 ≤ c) ?_ ?_
  · refine s_if ?_
    refine nt_eq hu ?_
    refine n_ixO (fun _ _ => rfl) 0 n rfl ?_
    refine n_int ?_
    refine ⟨_, 0, _, gs _, rfl, rfl, ?_⟩
    refine n_int ⟨_, _, rfl, rfl, rfl, rfl, ?_⟩
    rw [eqv_ints]
    refine ite2 (fun ha => ?_) (fun ha => ?_)
    · -- cell = 0
      refine b_cons ?_
      refine s_set 2 sc__law_take.nd ?_
      refine n_int ?_
      -- if bag[2] < len(bag[3]): cell = bag[3][bag[2]]
      refine b_mid (fun ω' δ' => ω' = ω.set n (p, lstP [.int a, .int b, .int c, .list (ns.map .int)]) ∧ ∃ y : Int, 0 ≤ y ∧ δ' = [some (.raw (.ref p)), some (.dat (.int m)), some (.dat (.int y)), none, none, none, none]) ?_ ?_
      · refine s_if ?_
        refine nt_lt ?_
        refine n_ixO (fun _ _ => rfl) 0 n rfl ?_
        refine n_int ?_
        refine ⟨_, 2, _, gs _, rfl, rfl, ?_⟩
        refine n_len T.z_len ?_
        refine n_ixO (fun _ _ => rfl) 0 n rfl ?_
        refine n_int ?_
        refine ⟨_, 3, _, gs _, rfl, rfl, _, _, rfl, rfl, _, _, rfl, rfl, ?_⟩
        refine ite2 (fun hc => ?_) (fun hc => ?_)
        · have hc' : c < ((ns.map PyData.int).length : Int) := of_decide_eq_true hc
          obtain ⟨d, hd, _⟩ := atI_in c0 hc'
          obtain ⟨y, hy, rfl⟩ := atI_int hd
          refine b_one ?_
          refine s_set 2 sc__law_take.nd ?_
          refine n_ixl (fun _ _ => rfl) ?_
          refine n_ixO (fun _ _ => rfl) 0 n rfl ?_
          refine n_int ?_
          refine ⟨_, 3, _, gs _, rfl, rfl, ?_⟩
          refine n_ixO (fun _ _ => rfl) 0 n rfl ?_
          refine n_int ?_
          exact ⟨_, 2, _, gs _, rfl, rfl, _, _, _, rfl, rfl, hd, rfl, y, hn y hy, rfl⟩
        · exact b_nil ⟨rfl, 0, Int.le_refl 0, rfl⟩
      rintro ω' δ' ⟨rfl, y, hy, rfl⟩
      -- bag[2] += 1
      refine b_cons ?_
      refine s_augO 0 n rfl ?_
      refine n_int ?_
      refine ⟨_, 2, c, gs _, rfl, by decide, by decide, rfl, ?_⟩
      refine n_int ⟨1, gs _, rfl, ?_⟩
      rw [sx]
      -- if cell >= 10 ** 18: bag[0] = cell
      refine b_mid (fun ω' δ' => ∃ a : Int, 0 ≤ a ∧ ω' = ω.set n (p, lstP [.int a, .int b, .int (c + 1), .list (ns.map .int)]) ∧ δ' = [some (.raw (.ref p)), some (.dat (.int m)), some (.dat (.int y)), none, none, none, none]) ?_ ?_
      · refine s_if ?_
        refine nt_ge ?_
        refine n_var 2 ?_
        refine n_int ?_
        refine ⟨_, _, rfl, rfl, ?_⟩
        refine ite2 (fun _ => ?_) (fun _ => ?_)
        · refine b_one ?_
          refine s_setO 0 n rfl ?_
          refine n_var 2 ?_
          refine n_int ?_
          refine ⟨_, _, 0, 0, gs _, rfl, rfl, rfl, ?_⟩
          rw [sx]
          exact ⟨y, hy, rfl, rfl⟩
        · exact b_nil ⟨a, a0, rfl, rfl⟩
      rintro ω' δ' ⟨a', ha', rfl, rfl⟩
      -- mixed = bag[1] * 48271 + int(cell) % 2147483647 + 7919 * bag[2]
      refine b_cons ?_
      refine s_set 3 sc__law_take.nd ?_
      refine n_add ?_
      refine n_add ?_
      refine n_mul ?_
      refine n_ixO (fun _ _ => rfl) 0 n rfl ?_
      refine n_int ?_
      refine ⟨_, 1, _, gs _, rfl, rfl, ?_⟩
      refine n_int ⟨_, _, rfl, rfl, .inr (by decide), ?_⟩
      refine n_mod ?_
      refine n_intI T.z_int ?_
      refine n_var 2 ?_
      refine ⟨_, rfl, ?_⟩
      refine n_int ⟨_, _, rfl, rfl, by decide, ?_⟩
      refine ⟨_, _, rfl, rfl, ?_⟩
      refine n_mul ?_
      refine n_int ?_
      refine n_ixO (fun _ _ => rfl) 0 n rfl ?_
      refine n_int ?_
      refine ⟨_, 2, _, gs _, rfl, rfl, _, _, rfl, rfl, .inl (by decide), _, _, rfl, rfl, ?_⟩
      -- bag[1] = int(mixed) % 2147483647
      refine b_one ?_
      refine s_setO 0 n rfl ?_
      refine n_mod ?_
      refine n_intI T.z_int ?_
      refine n_var 3 ?_
      refine ⟨_, rfl, ?_⟩
      refine n_int ⟨_, _, rfl, rfl, by decide, ?_⟩
      refine n_int ⟨_, _, 1, 1, gs _, rfl, rfl, rfl, ?_⟩
      rw [sx]
      have hm := fmod_nn (a := b * 48271 + y.fmod 2147483647 + 7919 * (c + 1)) (b := 2147483647) (by decide)
      exact ⟨a', _, c + 1, _, _, rfl, rfl, ha', hm.1, hm.2, by omega⟩
    · exact b_nil ⟨a, b, c, _, _, rfl, rfl, a0, b0, b1, c0⟩
  rintro ω' δ' ⟨a, b, c, x2, x3, rfl, rfl, a0, b0, b1, c0⟩
  have back : ∀ (v a' : Int), 0 ≤ v → v < m → 0 ≤ a' → (closeE ω n p bagI { nx := fun ω' _ => Φ ω' (.dat .none), rt := Φ }).rt (ω.set n (p, lstP [.int a', .int b, .int c, .list (ns.map .int)])) (.dat (.int v)) := fun v a' v0 v1 h0 =>
    ⟨_, ⟨a', b, c, ns, rfl, h0, b0, b1, c0, hl, hn⟩, rfl, q v v0 v1⟩
  -- if bag[0] > 0: ..
  refine b_cons ?_
  refine s_if ?_
  refine nt_gt ?_
  refine n_ixO (fun _ _ => rfl) 0 n rfl ?_
  refine n_int ?_
  refine ⟨_, 0, _, gs _, rfl, rfl, ?_⟩
  refine n_int ⟨_, _, rfl, rfl, ?_⟩
  refine ite2 (fun _ => ?_) (fun _ => ?_)
  · refine b_cons ?_
    refine s_set 4 sc__law_take.nd ?_
    refine n_mod ?_
    refine n_intI T.z_int ?_
    refine n_ixO (fun _ _ => rfl) 0 n rfl ?_
    refine n_int ?_
    refine ⟨_, 0, _, gs _, rfl, rfl, _, rfl, ?_⟩
    refine n_var 1 ?_
    refine ⟨_, _, rfl, rfl, by omega, ?_⟩
    refine b_cons ?_
    refine s_setO 0 n rfl ?_
    refine n_fdiv ?_
    refine n_intI T.z_int ?_
    refine n_ixO (fun _ _ => rfl) 0 n rfl ?_
    refine n_int ?_
    refine ⟨_, 0, _, gs _, rfl, rfl, _, rfl, ?_⟩
    refine n_var 1 ?_
    refine ⟨_, _, rfl, rfl, ⟨by omega, by omega⟩, ?_⟩
    refine n_int ⟨_, _, 0, 0, gs _, rfl, rfl, rfl, ?_⟩
    rw [sx]
    refine b_one ?_
    refine s_ret ?_
    refine n_var 4 ?_
    have h := fmod_nn (a := a) (b := m) (by omega)
    exact back _ _ h.1 h.2 (fdiv_nn (by omega) a0)
  · refine b_nil ?_
    -- begin, second
    refine b_cons ?_
    refine s_set 5 sc__law_take.nd ?_
    refine n_mod ?_
    refine n_intI T.z_int ?_
    refine n_mul ?_
    refine n_add ?_
    refine n_ixO (fun _ _ => rfl) 0 n rfl ?_
    refine n_int ?_
    refine ⟨_, 1, _, gs _, rfl, rfl, ?_⟩
    refine n_int ⟨_, _, rfl, rfl, ?_⟩
    refine n_int ⟨_, _, rfl, rfl, .inr (by decide), _, rfl, ?_⟩
    refine n_int ⟨_, _, rfl, rfl, by decide, ?_⟩
    have h1 := fmod_nn (a := (b + 1) * 39373) (b := 1000000007) (by decide)
    refine b_cons ?_
    refine s_set 6 sc__law_take.nd ?_
    refine n_mod ?_
    refine n_intI T.z_int ?_
    refine n_mul ?_
    refine n_mod ?_
    refine n_intI T.z_int ?_
    refine n_mul ?_
    refine n_var 5 ?_
    refine n_var 5 ?_
    refine ⟨_, _, rfl, rfl, .inl (by omega), _, rfl, ?_⟩
    refine n_int ⟨_, _, rfl, rfl, by decide, ?_⟩
    refine n_int ⟨_, _, rfl, rfl, .inr (by decide), _, rfl, ?_⟩
    refine n_int ⟨_, _, rfl, rfl, by decide, ?_⟩
    refine b_one ?_
    refine s_ret ?_
    refine n_mod ?_
    refine n_intI T.z_int ?_
    refine n_fdiv ?_
    refine n_var 6 ?_
    refine n_int ?_
    refine ⟨_, _, rfl, rfl, ⟨by decide, by decide⟩, _, rfl, ?_⟩
    refine n_var 1 ?_
    refine ⟨_, _, rfl, rfl, by omega, ?_⟩
    have h := fmod_nn (a := ((((b + 1) * 39373).fmod 1000000007 * ((b + 1) * 39373).fmod 1000000007).fmod 998244353 * 30011).fmod 998244353 |>.fdiv 7) (b := m) (by omega)
    exact back _ a h.1 h.2 a0
end

section
variable {P : Program} {w : World} {K : PySem.W.Frag} {mg : Str → Option Value} {base : Heap}
theorem r_one (T : Txt K mg) : Rdy P w K mg base 2 "_law_one" ["bag", "some"] oneC := by
  refine rdy T._law_one_ sc__law_one (fun cs ω Φ ⟨n, p, ds, e, _⟩ => by rw [e]; rfl) fun X f cdv A outer s H E hX hr cs ω Φ ⟨n, p, ds, e, hw, hne, hl, q⟩ => ?_
  subst hX; subst e
  refine b_one ?_
  refine s_ret ?_
  refine n_ixl (fun _ _ => rfl) ?_
  refine n_var 1 ?_
  refine n_fn (r_take T) hr ?_
  refine na_cons ?_
  refine n_var 0 ?_
  refine na_cons ?_
  refine n_len T.z_len ?_
  refine n_var 1 ?_
  refine ⟨_, _, rfl, rfl, na_nil ⟨n, p, _, rfl, hw, ?_, by omega, fun v v0 v1 => ?_⟩⟩
  · have : ds.length ≠ 0 := fun z => hne (List.length_eq_zero_iff.mp z)
    omega
  · obtain ⟨d, h1, h2⟩ := atI_in v0 v1
    exact ⟨_, _, d, rfl, rfl, h1, q d (List.mem_of_getElem? h2)⟩
theorem r_nested (T : Txt K mg) : Rdy P w K mg base 1 "_law_nested" ["many"] nestC := by
  refine rdy T._law_nested_ sc__law_nested (fun cs ω Φ ⟨n, e, _⟩ => by rw [e]; rfl) fun X f cdv A outer s H E hX hr cs ω Φ ⟨n, e, hn, q⟩ => ?_
  subst hX; subst e
  refine b_cons ?_
  refine s_set 1 sc__law_nested.nd ?_
  refine n_lst ?_
  refine na_nil ?_
  refine ⟨[], rfl, by decide, ?_⟩
  refine b_cons ?_
  refine s_forR 2 PassesOwn.never rfl sc__law_nested.nd T.z_range ?_
  refine n_var 0 ?_
  refine ⟨_, rfl, by omega, by omega, fun i ω' δ' => i ≤ n ∧ ω' = ω ∧ ∃ x2, δ' = [some (.dat (.int n)), some (.dat (nestD i)), x2], ⟨by omega, rfl, none, rfl⟩, ?_, ?_⟩
  · rintro i ω' δ' hi ⟨_, rfl, x2, rfl⟩
    refine b_one ?_
    refine s_set 1 sc__law_nested.nd ?_
    refine n_lst ?_
    refine na_cons ?_
    refine n_var 1 ?_
    refine na_nil ?_
    exact ⟨[nestD i], rfl, (by show 1 ≤ 1000; decide), by omega, rfl, _, rfl⟩
  · rintro ω' δ' ⟨_, rfl, x2, rfl⟩
    refine b_one ?_
    refine s_ret ?_
    refine n_var 1 ?_
    exact q
theorem r_alike (T : Txt K mg) (hsm : ∃ m, base.Ns sysModules m) : RdG P w K mg base 1 "_law_alike" ["found", "due"] alikeC := by
  refine rdg T._law_alike_ sc__law_alike (fun cs ω Φ ⟨d, e, _⟩ => by rw [e]; rfl) fun X f cdv A outer s H E hX hg hr cs ω Φ ⟨d, e, h1, h2, q⟩ => ?_
  have hu := room_u64 hr
  have hu2 := room_u hr
  subst hX; subst e
  refine b_one ?_
  refine s_ret ?_
  refine n_and ?_
  refine n_eq hu ?_
  refine n_var 0 ?_
  refine n_var 1 ?_
  refine ⟨d, d, rfl, rfl, h1, h1, ?_⟩
  rw [SeqAt.eqv_refl d (SeqAt.canLay_of_shaped h1)]
  refine ⟨true, rfl, iteT ?_⟩
  refine n_one ?_
  refine n_eqS ?_
  refine n_repr hg hsm hu2 T.z_repr ?_
  refine n_var 0 ?_
  refine ⟨d, rfl, h2, ?_⟩
  refine n_repr hg hsm hu2 T.z_repr ?_
  refine n_var 1 ?_
  refine ⟨d, rfl, h2, _, _, rfl, rfl, ?_⟩
  show Φ ω (.dat (.bool (decide (d.shown = d.shown))))
  rw [decide_eq_true rfl]
  exact q
end

section
variable {P : Program} {w : World} {K : PySem.W.Frag} {mg : Str → Option Value} {base : Heap}
/-- shown, of a bounded depth -/
def It (n k : Nat) (d : PyData) : Prop := ShowsN n d ∧ d.depth ≤ k
def itB (n k : Nat) (d : PyData) : Bool := showsC n d && decide (d.depth ≤ k)
theorem it_of {n k : Nat} {d : PyData} (h : itB n k d = true) : It n k d := by
  unfold itB at h
  rw [Bool.and_eq_true] at h
  exact ⟨showsN_of h.1, of_decide_eq_true h.2⟩
theorem itB_of {n k : Nat} {d : PyData} (h : ShowsN n d) (h2 : d.depth ≤ k) : itB n k d = true := by
  unfold itB
  rw [showsC_of h, decide_eq_true h2]; rfl
def oddC : Con := fun cs ω Φ => ∃ (n : Nat) (p : Addr), cs = [.raw (.ref p)] ∧ ω[n]? = some (p, bagP) ∧ ∀ d, It 10000 20 d → Φ ω (.dat d)
theorem r_odd (T : Txt K mg) : Rdy P w K mg base 3 "_law_odd" ["bag"] oddC := by
  refine rdy T._law_odd_ sc__law_odd (fun cs ω Φ ⟨n, p, e, _⟩ => by rw [e]; rfl) fun X f cdv A outer s H E hX hr cs ω Φ ⟨n, p, e, hw, q⟩ => ?_
  subst hX; subst e
  refine b_cons ?_
  refine s_set 1 sc__law_odd.nd ?_
  repeat walk_at "dx"
  refine b_cons ?_
  refine s_set 1 sc__law_odd.nd ?_
  refine n_catL ?_
  refine n_var 1 ?_
  repeat walk_at "dx"
  refine b_cons ?_
  refine s_set 1 sc__law_odd.nd ?_
  refine n_catL ?_
  refine n_var 1 ?_
  repeat walk_at "dx"
  refine b_cons ?_
  refine s_set 1 sc__law_odd.nd ?_
  refine n_catL ?_
  refine n_var 1 ?_
  repeat walk_at "dx"
  refine b_cons ?_
  refine s_set 1 sc__law_odd.nd ?_
  refine n_catL ?_
  refine n_var 1 ?_
  repeat walk_at "dx"
  refine n_dict1 fun pd => ?_
  refine n_int ⟨_, .inl 0, rfl, rfl, ?_⟩
  refine n_int ⟨_, _, rfl, rfl, ?_⟩
  repeat walk_at "dx"
  refine b_cons ?_
  refine s_set 1 sc__law_odd.nd ?_
  refine n_catL ?_
  refine n_var 1 ?_
  repeat walk_at "dx"
  refine n_fn (r_nested T) hr ?_
  refine na_cons ?_
  refine n_int ?_
  refine na_nil ?_
  refine ⟨15, rfl, by decide, ?_⟩
  repeat walk_at "dx"
  intro y hy
  repeat walk_at "dx"
  refine ⟨Nat.le_of_ble_eq_true rfl, ?_⟩
  refine b_one ?_
  refine s_ret ?_
  refine n_fn (r_one T) hr ?_
  refine na_cons ?_
  refine n_var 0 ?_
  refine na_cons ?_
  refine n_var 1 ?_
  refine na_nil ?_
  refine ⟨n, p, _, rfl, hw, List.cons_ne_nil _ _, Nat.le_of_ble_eq_true rfl, fun d hd => q d (it_of (List.all_eq_true.mp ?_ d hd))⟩
  refine all_app (by decide +kernel) (all_con (by decide +kernel) (all_con (by decide +kernel) (all_con (by decide +kernel) (all_con (by decide +kernel) (all_con (by decide +kernel) (all_con (itB_of (hy.mono (by decide)) (Nat.zero_le _)) rfl))))))
end

section
variable {P : Program} {w : World} {K : PySem.W.Frag} {mg : Str → Option Value} {base : Heap}
def con1 (F : PyData → PyData) : Con := fun cs ω Φ => ∃ d, cs = [.dat d] ∧ Φ ω (.dat (F d))
theorem con1_len {F : PyData → PyData} {cs : List Cell} {ω : Ow} {Φ : Ow → Cell → Prop} (h : con1 F cs ω Φ) : cs.length = 1 := by
  obtain ⟨d, rfl, _⟩ := h
  rfl
def isIntD : PyData → Bool
  | .int _ => true
  | _ => false
theorem int_of_isInt {d : PyData} (h : isIntD d = true) : ∃ i, d = .int i := by
  cases d <;> first | exact ⟨_, rfl⟩ | cases h
theorem r_is_integer (T : Txt K mg) : Rdy P w K mg base 1 "is_integer" ["thing"] (con1 fun d => .bool (isIntD d)) := by
  refine rdy T.is_integer_ sc_is_integer (fun cs ω Φ h => con1_len h) fun X f cdv A outer s H E hX hr cs ω Φ ⟨d, e, q⟩ => ?_
  subst hX; subst e
  try dsimp only at q
  refine b_one ?_
  refine s_ret ?_
  refine n_and ?_
  refine n_isi .int T.z_isinstance T.z_int ?_
  refine n_var 0 ?_
  refine ⟨d, rfl, _, rfl, ?_⟩
  refine ite2 (fun h => ?_) (fun h => ?_)
  · refine n_one ?_
    refine n_not ?_
    refine n_isi .bool T.z_isinstance T.z_bool ?_
    refine n_var 0 ?_
    refine ⟨d, rfl, _, rfl, ?_⟩
    cases d <;> first | exact q | cases h
  · cases d <;> first | exact q | exact absurd rfl h
theorem r_is_whole (T : Txt K mg) : Rdy P w K mg base 1 "_law_is_whole" ["thing"] (con1 fun d => .bool (isIntD d)) := by
  refine rdy T._law_is_whole_ sc__law_is_whole (fun cs ω Φ h => con1_len h) fun X f cdv A outer s H E hX hr cs ω Φ ⟨d, e, q⟩ => ?_
  subst hX; subst e
  try dsimp only at q
  refine b_one ?_
  refine s_ret ?_
  refine n_and ?_
  refine n_isi .int T.z_isinstance T.z_int ?_
  refine n_var 0 ?_
  refine ⟨d, rfl, _, rfl, ?_⟩
  refine ite2 (fun h => ?_) (fun h => ?_)
  · refine n_one ?_
    refine n_not ?_
    refine n_isi .bool T.z_isinstance T.z_bool ?_
    refine n_var 0 ?_
    refine ⟨d, rfl, _, rfl, ?_⟩
    cases d <;> first | exact q | cases h
  · cases d <;> first | exact q | exact absurd rfl h
def firstS : List PyData → Str → Bool
  | .str x :: _, w => decide (x = w)
  | _, _ => false
def isMadeD (d : PyData) (w : Str) (m : Nat) : Bool := match d with
  | .tuple xs => decide (xs.length = m) && firstS xs w
  | _ => false
def itemD (d : PyData) (i : Nat) : PyData := match d with
  | .tuple xs => xs.getD i .none
  | _ => .none
def madeC : Con := fun cs ω Φ => ∃ (d : PyData) (w : Str) (m : Nat), cs = [.dat d, .dat (.str w), .dat (.int (m : Int))] ∧ 1 ≤ m ∧ Φ ω (.dat (.bool (isMadeD d w m)))
theorem r_is_made (T : Txt K mg) : Rdy P w K mg base 1 "is_made" ["thing", "word", "many"] madeC := by
  refine rdy T.is_made_ sc_is_made (fun cs ω Φ ⟨d, w, m, e, _⟩ => by rw [e]; rfl) fun X f cdv A outer s H E hX hr cs ω Φ ⟨d, w, m, e, hm, q⟩ => ?_
  have hu := room_u64 hr
  subst hX; subst e
  try dsimp only at q
  refine b_one ?_
  refine s_ret ?_
  refine n_and ?_
  refine n_isi .tuple T.z_isinstance T.z_tuple ?_
  refine n_var 0 ?_
  refine ⟨d, rfl, _, rfl, ?_⟩
  refine ite2 (fun h => ?_) (fun h => ?_)
  rotate_left
  · cases d <;> first | exact q | exact absurd rfl h
  obtain ⟨xs, rfl⟩ : ∃ xs, d = .tuple xs := by cases d <;> first | exact ⟨_, rfl⟩ | cases h
  refine n_and ?_
  refine n_eq hu ?_
  refine n_len T.z_len ?_
  refine n_var 0 ?_
  refine ⟨_, _, rfl, rfl, ?_⟩
  refine n_var 2 ?_
  refine ⟨_, _, rfl, rfl, rfl, rfl, _, rfl, ?_⟩
  rw [eqv_ints]
  refine ite2 (fun h1 => ?_) (fun h1 => ?_)
  rotate_left
  · show Φ ω (.dat (.bool false))
    have e : isMadeD (.tuple xs) w m = false := by
      show (decide (xs.length = m) && _) = false
      rw [decide_eq_false (fun z => h1 (by rw [z]; exact beq_self_eq_true _))]; rfl
    rw [← e]; exact q
  have hl : xs.length = m := by have := eq_of_beq h1; omega
  cases xs with
  | nil => exact absurd hl (by simp; omega)
  | cons x r =>
    refine n_and ?_
    refine n_isi .str T.z_isinstance T.z_str ?_
    refine n_ixt (fun _ _ => rfl) ?_
    refine n_var 0 ?_
    refine n_int ?_
    refine ⟨_, _, x, rfl, rfl, atI_nat (j := 0) rfl, ?_⟩
    refine ⟨x, rfl, _, rfl, ?_⟩
    have e0 : isMadeD (.tuple (x :: r)) w m = firstS (x :: r) w := by
      show (decide ((x :: r).length = m) && _) = _
      rw [decide_eq_true hl]; rfl
    rw [e0] at q
    refine ite2 (fun h2 => ?_) (fun h2 => ?_)
    rotate_left
    · show Φ ω (.dat (.bool false))
      cases x <;> first | exact q | exact absurd rfl h2
    obtain ⟨y, rfl⟩ : ∃ y, x = .str y := by cases x <;> first | exact ⟨_, rfl⟩ | cases h2
    refine n_one ?_
    refine n_eqS ?_
    refine n_ixt (fun _ _ => rfl) ?_
    refine n_var 0 ?_
    refine n_int ?_
    refine ⟨_, _, _, rfl, rfl, atI_nat (j := 0) rfl, ?_⟩
    refine n_var 1 ?_
    exact ⟨_, _, rfl, rfl, q⟩
theorem made_item {d : PyData} {w : Str} {m i : Nat} (h : isMadeD d w m = true) (hi : i < m) : ∃ xs, d = .tuple xs ∧ atI xs (i : Int) = some (itemD d i) := by
  cases d with
  | tuple xs =>
    refine ⟨xs, rfl, ?_⟩
    have hl : xs.length = m := by
      have q : (decide (xs.length = m) && firstS xs w) = true := h
      rw [Bool.and_eq_true, decide_eq_true_eq] at q
      exact q.1
    have hi' : i < xs.length := by omega
    have e : xs[i]? = some (xs.getD i .none) := by rw [List.getD_eq_getElem?_getD, List.getElem?_eq_getElem hi']; rfl
    exact atI_nat (j := i) e
  | _ => cases h
def isWayD (d : PyData) : Bool := isMadeD d "by" 2 && isIntD (itemD d 1)
def nnD : PyData → Bool
  | .int i => decide (0 ≤ i)
  | _ => false
def isCountD (d : PyData) (w : Str) : Bool := isMadeD d w 2 && isIntD (itemD d 1) && nnD (itemD d 1)
theorem r_is_way (T : Txt K mg) : Rdy P w K mg base 2 "_is_way" ["thing"] (con1 fun d => .bool (isWayD d)) := by
  refine rdy T._is_way_ sc__is_way (fun cs ω Φ h => con1_len h) fun X f cdv A outer s H E hX hr cs ω Φ ⟨d, e, q⟩ => ?_
  subst hX; subst e
  try dsimp only at q
  refine b_one ?_
  refine s_ret ?_
  refine n_and ?_
  refine n_fn (r_is_made T) hr ?_
  refine na_cons ?_
  refine n_var 0 ?_
  refine na_cons ?_
  refine n_str ?_
  refine na_cons ?_
  refine n_int ?_
  refine na_nil ?_
  refine ⟨d, _, 2, rfl, by decide, _, rfl, ?_⟩
  refine ite2 (fun h => ?_) (fun h => ?_)
  · obtain ⟨xs, rfl, hx⟩ := made_item h (i := 1) (by decide)
    refine n_one ?_
    refine n_fn (r_is_integer T) hr ?_
    refine na_cons ?_
    refine n_ixt (fun _ _ => rfl) ?_
    refine n_var 0 ?_
    refine n_int ?_
    refine ⟨_, _, _, rfl, rfl, hx, na_nil ⟨_, rfl, ?_⟩⟩
    have e : isWayD (.tuple xs) = isIntD (itemD (.tuple xs) 1) := by unfold isWayD; rw [h]; rfl
    rw [e] at q; exact q
  · have e : isWayD d = false := by unfold isWayD; rw [Bool.eq_false_iff.mpr h]; rfl
    rw [e] at q; exact q
def countC : Con := fun cs ω Φ => ∃ (d : PyData) (w : Str), cs = [.dat d, .dat (.str w)] ∧ Φ ω (.dat (.bool (isCountD d w)))
theorem r_is_count (T : Txt K mg) : Rdy P w K mg base 2 "_is_count" ["thing", "word"] countC := by
  refine rdy T._is_count_ sc__is_count (fun cs ω Φ ⟨d, w, e, _⟩ => by rw [e]; rfl) fun X f cdv A outer s H E hX hr cs ω Φ ⟨d, w, e, q⟩ => ?_
  subst hX; subst e
  try dsimp only at q
  refine b_one ?_
  refine s_ret ?_
  refine n_and ?_
  refine n_fn (r_is_made T) hr ?_
  refine na_cons ?_
  refine n_var 0 ?_
  refine na_cons ?_
  refine n_var 1 ?_
  refine na_cons ?_
  refine n_int ?_
  refine na_nil ?_
  refine ⟨d, _, 2, rfl, by decide, _, rfl, ?_⟩
  refine ite2 (fun h => ?_) (fun h => ?_)
  · obtain ⟨xs, rfl, hx⟩ := made_item h (i := 1) (by decide)
    refine n_and ?_
    refine n_fn (r_is_integer T) hr ?_
    refine na_cons ?_
    refine n_ixt (fun _ _ => rfl) ?_
    refine n_var 0 ?_
    refine n_int ?_
    refine ⟨_, _, _, rfl, rfl, hx, na_nil ⟨_, rfl, _, rfl, ?_⟩⟩
    have e : isCountD (.tuple xs) w = (isIntD (itemD (.tuple xs) 1) && nnD (itemD (.tuple xs) 1)) := by unfold isCountD; rw [h]; rfl
    rw [e] at q
    refine ite2 (fun h2 => ?_) (fun h2 => ?_)
    · obtain ⟨i, hi⟩ := int_of_isInt h2
      refine n_one ?_
      refine n_ge ?_
      refine n_ixt (fun _ _ => rfl) ?_
      refine n_var 0 ?_
      refine n_int ?_
      refine ⟨_, _, _, rfl, rfl, hx, ?_⟩
      rw [hi] at q ⊢
      exact n_int ⟨_, _, rfl, rfl, q⟩
    · rw [Bool.eq_false_iff.mpr h2] at q; exact q
  · have e : isCountD d w = false := by unfold isCountD; rw [Bool.eq_false_iff.mpr h]; rfl
    rw [e] at q; exact q
def isEndD (d : PyData) : Bool := isNone d || isIntD d
theorem r_is_end (T : Txt K mg) : Rdy P w K mg base 2 "_is_end" ["thing"] (con1 fun d => .bool (isEndD d)) := by
  refine rdy T._is_end_ sc__is_end (fun cs ω Φ h => con1_len h) fun X f cdv A outer s H E hX hr cs ω Φ ⟨d, e, q⟩ => ?_
  subst hX; subst e
  try dsimp only at q
  refine b_one ?_
  refine s_ret ?_
  refine n_or ?_
  refine n_isN ?_
  refine n_var 0 ?_
  refine ⟨d, rfl, _, rfl, ?_⟩
  unfold isEndD at q
  refine ite2 (fun h => ?_) (fun h => ?_)
  · rw [h] at q; exact q
  · refine n_one ?_
    refine n_fn (r_is_integer T) hr ?_
    refine na_cons ?_
    refine n_var 0 ?_
    refine na_nil ?_
    refine ⟨d, rfl, ?_⟩
    rw [Bool.eq_false_iff.mpr h] at q; exact q
def colPartD (d : PyData) : Bool := isMadeD d "lost" 1 || (isWayD d || isCountD d "at")
def rowPartD (d : PyData) : Bool := isMadeD d "head" 1 || (isMadeD d "foot" 1 || (isWayD d || isCountD d "last"))
theorem r_is_column_part (T : Txt K mg) : Rdy P w K mg base 3 "_is_column_part" ["thing"] (con1 fun d => .bool (colPartD d)) := by
  refine rdy T._is_column_part_ sc__is_column_part (fun cs ω Φ h => con1_len h) fun X f cdv A outer s H E hX hr cs ω Φ ⟨d, e, q⟩ => ?_
  subst hX; subst e
  try dsimp only at q
  unfold colPartD at q
  refine b_one ?_
  refine s_ret ?_
  refine n_or ?_
  refine n_fn (r_is_made T) hr ?_
  refine na_cons ?_
  refine n_var 0 ?_
  refine na_cons ?_
  refine n_str ?_
  refine na_cons ?_
  refine n_int ?_
  refine na_nil ?_
  refine ⟨d, _, 1, rfl, by decide, _, rfl, ?_⟩
  refine ite2 (fun h => ?_) (fun h => ?_)
  · rw [h] at q; exact q
  rw [Bool.eq_false_iff.mpr h, Bool.false_or] at q
  refine n_or ?_
  refine n_fn (r_is_way T) hr ?_
  refine na_cons ?_
  refine n_var 0 ?_
  refine na_nil ?_
  refine ⟨d, rfl, _, rfl, ?_⟩
  refine ite2 (fun h => ?_) (fun h => ?_)
  · rw [h] at q; exact q
  rw [Bool.eq_false_iff.mpr h, Bool.false_or] at q
  refine n_one ?_
  refine n_fn (r_is_count T) hr ?_
  refine na_cons ?_
  refine n_var 0 ?_
  refine na_cons ?_
  refine n_str ?_
  refine na_nil ?_
  exact ⟨d, _, rfl, q⟩
theorem r_is_row_part (T : Txt K mg) : Rdy P w K mg base 3 "_is_row_part" ["thing"] (con1 fun d => .bool (rowPartD d)) := by
  refine rdy T._is_row_part_ sc__is_row_part (fun cs ω Φ h => con1_len h) fun X f cdv A outer s H E hX hr cs ω Φ ⟨d, e, q⟩ => ?_
  subst hX; subst e
  try dsimp only at q
  unfold rowPartD at q
  refine b_one ?_
  refine s_ret ?_
  refine n_or ?_
  refine n_fn (r_is_made T) hr ?_
  refine na_cons ?_
  refine n_var 0 ?_
  refine na_cons ?_
  refine n_str ?_
  refine na_cons ?_
  refine n_int ?_
  refine na_nil ?_
  refine ⟨d, _, 1, rfl, by decide, _, rfl, ?_⟩
  refine ite2 (fun h => ?_) (fun h => ?_)
  · rw [h] at q; exact q
  rw [Bool.eq_false_iff.mpr h, Bool.false_or] at q
  refine n_or ?_
  refine n_fn (r_is_made T) hr ?_
  refine na_cons ?_
  refine n_var 0 ?_
  refine na_cons ?_
  refine n_str ?_
  refine na_cons ?_
  refine n_int ?_
  refine na_nil ?_
  refine ⟨d, _, 1, rfl, by decide, _, rfl, ?_⟩
  refine ite2 (fun h => ?_) (fun h => ?_)
  · rw [h] at q; exact q
  rw [Bool.eq_false_iff.mpr h, Bool.false_or] at q
  refine n_or ?_
  refine n_fn (r_is_way T) hr ?_
  refine na_cons ?_
  refine n_var 0 ?_
  refine na_nil ?_
  refine ⟨d, rfl, _, rfl, ?_⟩
  refine ite2 (fun h => ?_) (fun h => ?_)
  · rw [h] at q; exact q
  rw [Bool.eq_false_iff.mpr h, Bool.false_or] at q
  refine n_one ?_
  refine n_fn (r_is_count T) hr ?_
  refine na_cons ?_
  refine n_var 0 ?_
  refine na_cons ?_
  refine n_str ?_
  refine na_nil ?_
  exact ⟨d, _, rfl, q⟩
def isNameD (d : PyData) : Bool := isMadeD d "name" 3 && (colPartD (itemD d 1) && rowPartD (itemD d 2))
def isRangeD (d : PyData) : Bool := isMadeD d "rows" 4 && (colPartD (itemD d 1) && (isEndD (itemD d 2) && isEndD (itemD d 3)))
theorem r_is_name (T : Txt K mg) : Rdy P w K mg base 4 "is_name" ["thing"] (con1 fun d => .bool (isNameD d)) := by
  refine rdy T.is_name_ sc_is_name (fun cs ω Φ h => con1_len h) fun X f cdv A outer s H E hX hr cs ω Φ ⟨d, e, q⟩ => ?_
  subst hX; subst e
  try dsimp only at q
  unfold isNameD at q
  refine b_one ?_
  refine s_ret ?_
  refine n_and ?_
  refine n_fn (r_is_made T) hr ?_
  refine na_cons ?_
  refine n_var 0 ?_
  refine na_cons ?_
  refine n_str ?_
  refine na_cons ?_
  refine n_int ?_
  refine na_nil ?_
  refine ⟨d, _, 3, rfl, by decide, _, rfl, ?_⟩
  refine ite2 (fun h => ?_) (fun h => ?_)
  rotate_left
  · rw [Bool.eq_false_iff.mpr h] at q; exact q
  rw [h, Bool.true_and] at q
  obtain ⟨xs, rfl, h1⟩ := made_item h (i := 1) (by decide)
  obtain ⟨_, e, h2⟩ := made_item h (i := 2) (by decide)
  cases e
  refine n_and ?_
  refine n_fn (r_is_column_part T) hr ?_
  refine na_cons ?_
  refine n_ixt (fun _ _ => rfl) ?_
  refine n_var 0 ?_
  refine n_int ?_
  refine ⟨_, _, _, rfl, rfl, h1, na_nil ⟨_, rfl, _, rfl, ?_⟩⟩
  refine ite2 (fun h => ?_) (fun h => ?_)
  rotate_left
  · rw [Bool.eq_false_iff.mpr h] at q; exact q
  rw [h, Bool.true_and] at q
  refine n_one ?_
  refine n_fn (r_is_row_part T) hr ?_
  refine na_cons ?_
  refine n_ixt (fun _ _ => rfl) ?_
  refine n_var 0 ?_
  refine n_int ?_
  exact ⟨_, _, _, rfl, rfl, h2, na_nil ⟨_, rfl, q⟩⟩
theorem r_is_range (T : Txt K mg) : Rdy P w K mg base 4 "is_range" ["thing"] (con1 fun d => .bool (isRangeD d)) := by
  refine rdy T.is_range_ sc_is_range (fun cs ω Φ h => con1_len h) fun X f cdv A outer s H E hX hr cs ω Φ ⟨d, e, q⟩ => ?_
  subst hX; subst e
  try dsimp only at q
  unfold isRangeD at q
  refine b_one ?_
  refine s_ret ?_
  refine n_and ?_
  refine n_fn (r_is_made T) hr ?_
  refine na_cons ?_
  refine n_var 0 ?_
  refine na_cons ?_
  refine n_str ?_
  refine na_cons ?_
  refine n_int ?_
  refine na_nil ?_
  refine ⟨d, _, 4, rfl, by decide, _, rfl, ?_⟩
  refine ite2 (fun h => ?_) (fun h => ?_)
  rotate_left
  · rw [Bool.eq_false_iff.mpr h] at q; exact q
  rw [h, Bool.true_and] at q
  obtain ⟨xs, rfl, h1⟩ := made_item h (i := 1) (by decide)
  obtain ⟨_, e, h2⟩ := made_item h (i := 2) (by decide)
  cases e
  obtain ⟨_, e, h3⟩ := made_item h (i := 3) (by decide)
  cases e
  refine n_and ?_
  refine n_fn (r_is_column_part T) hr ?_
  refine na_cons ?_
  refine n_ixt (fun _ _ => rfl) ?_
  refine n_var 0 ?_
  refine n_int ?_
  refine ⟨_, _, _, rfl, rfl, h1, na_nil ⟨_, rfl, _, rfl, ?_⟩⟩
  refine ite2 (fun h => ?_) (fun h => ?_)
  rotate_left
  · rw [Bool.eq_false_iff.mpr h] at q; exact q
  rw [h, Bool.true_and] at q
  refine n_and ?_
  refine n_fn (r_is_end T) hr ?_
  refine na_cons ?_
  refine n_ixt (fun _ _ => rfl) ?_
  refine n_var 0 ?_
  refine n_int ?_
  refine ⟨_, _, _, rfl, rfl, h2, na_nil ⟨_, rfl, _, rfl, ?_⟩⟩
  refine ite2 (fun h => ?_) (fun h => ?_)
  rotate_left
  · rw [Bool.eq_false_iff.mpr h] at q; exact q
  rw [h, Bool.true_and] at q
  refine n_one ?_
  refine n_fn (r_is_end T) hr ?_
  refine na_cons ?_
  refine n_ixt (fun _ _ => rfl) ?_
  refine n_var 0 ?_
  refine n_int ?_
  exact ⟨_, _, _, rfl, rfl, h3, na_nil ⟨_, rfl, q⟩⟩
end

section
variable {P : Program} {w : World} {K : PySem.W.Frag} {mg : Str → Option Value} {base : Heap}
theorem made_str (s w : Str) (r : List PyData) (m : Nat) : isMadeD (.tuple (.str s :: r)) w m = (decide (r.length + 1 = m) && decide (s = w)) := rfl
theorem made_no {x : PyData} (r : List PyData) (w : Str) (m : Nat) (h : isT .str x = false) : isMadeD (.tuple (x :: r)) w m = false := by
  show (decide (r.length + 1 = m) && firstS (x :: r) w) = false
  have e : firstS (x :: r) w = false := by cases x <;> first | rfl | cases h
  rw [e, Bool.and_false]
theorem made_nt {d : PyData} (w : Str) (m : Nat) (h : isT .tuple d = false) : isMadeD d w m = false := by
  cases d <;> first | rfl | cases h
theorem made_nil (w : Str) (m : Nat) : isMadeD (.tuple []) w m = false := by
  show (_ && false) = false
  rw [Bool.and_false]
theorem item_one (x : PyData) (r : List PyData) : itemD (.tuple (x :: r)) 1 = r.getD 0 .none := by cases r <;> rfl
theorem way_str (s : Str) (r : List PyData) : isWayD (.tuple (.str s :: r)) = ((decide (r.length = 1) && decide (s = "by")) && isIntD (r.getD 0 .none)) := by
  unfold isWayD
  rw [made_str, item_one]
  simp
theorem count_str (s w : Str) (r : List PyData) : isCountD (.tuple (.str s :: r)) w = (((decide (r.length = 1) && decide (s = w)) && isIntD (r.getD 0 .none)) && nnD (r.getD 0 .none)) := by
  unfold isCountD
  rw [made_str, item_one]
  simp
theorem nlb : ¬ ("lost" : Str) = "by" := by decide +kernel
theorem nla : ¬ ("lost" : Str) = "at" := by decide +kernel
theorem nba : ¬ ("by" : Str) = "at" := by decide +kernel
theorem colPart_no {d : PyData} (h : ∀ w m, isMadeD d w m = false) : colPartD d = false := by
  unfold colPartD isWayD isCountD
  rw [h, h, h]; rfl
theorem rowPart_no {d : PyData} (h : ∀ w m, isMadeD d w m = false) : rowPartD d = false := by
  unfold rowPartD isWayD isCountD
  rw [h, h, h, h]; rfl
theorem colPart_lost (r : List PyData) : colPartD (.tuple (.str "lost" :: r)) = decide (r.length = 0) := by
  unfold colPartD
  rw [made_str, way_str, count_str, decide_eq_false nlb, decide_eq_false nla]
  simp
theorem colPart_else {s : Str} (h : ¬ s = "lost") (r : List PyData) : colPartD (.tuple (.str s :: r)) = (decide (r.length = 1) && (isIntD (r.getD 0 .none) && (decide (s = "by") || (decide (s = "at") && nnD (r.getD 0 .none))))) := by
  unfold colPartD
  rw [made_str, way_str, count_str, decide_eq_false h, Bool.and_false]
  cases decide (r.length = 1) <;> cases decide (s = "by") <;> cases decide (s = "at") <;> cases isIntD (r.getD 0 .none) <;> cases nnD (r.getD 0 .none) <;> rfl
theorem r_law_is_part (T : Txt K mg) : Rdy P w K mg base 2 "_law_is_part" ["thing"] (con1 fun d => .bool (colPartD d)) := by
  refine rdy T._law_is_part_ sc__law_is_part (fun cs ω Φ h => con1_len h) fun X f cdv A outer s H E hX hr cs ω Φ ⟨d, e, q⟩ => ?_
  have hu := room_u64 hr
  subst hX; subst e
  try dsimp only at q
  -- if not isinstance(thing, tuple) or len(thing) == 0 or not isinstance(thing[0], str): return False
  refine b_cons ?_
  refine s_if ?_
  refine nt_w ?_
  refine nw_or ?_
  refine nt_not ?_
  refine nt_val ?_
  refine n_isi .tuple T.z_isinstance T.z_tuple ?_
  refine n_var 0 ?_
  refine ⟨d, rfl, _, rfl, ?_⟩
  refine ite2 (fun h => ?_) (fun h => ?_)
  · refine b_one ?_
    refine s_ret ?_
    refine n_bl ?_
    rw [colPart_no (fun w m => made_nt w m (by simpa using h))] at q
    exact q
  obtain ⟨xs, rfl⟩ : ∃ xs, d = .tuple xs := by cases d <;> first | exact ⟨_, rfl⟩ | exact absurd rfl h
  refine nw_or ?_
  refine nt_eq hu ?_
  refine n_len T.z_len ?_
  refine n_var 0 ?_
  refine ⟨_, _, rfl, rfl, ?_⟩
  refine n_int ⟨_, _, rfl, rfl, rfl, rfl, ?_⟩
  rw [eqv_ints]
  cases xs with
  | nil =>
    refine ite2 (fun _ => ?_) (fun h => absurd rfl h)
    refine b_one ?_
    refine s_ret ?_
    refine n_bl ?_
    rw [colPart_no (fun w m => made_nil w m)] at q
    exact q
  | cons x r =>
    refine ite2 (fun h => absurd (eq_of_beq h) (by show ¬ (((r.length + 1 : Nat) : Int) = 0); omega)) (fun _ => ?_)
    refine nw_or1 ?_
    refine nt_not ?_
    refine nt_val ?_
    refine n_isi .str T.z_isinstance T.z_str ?_
    refine n_ixt (fun _ _ => rfl) ?_
    refine n_var 0 ?_
    refine n_int ?_
    refine ⟨_, _, x, rfl, rfl, atI_nat (j := 0) rfl, x, rfl, _, rfl, ?_⟩
    refine ite2 (fun h => ?_) (fun h => ?_)
    · refine b_one ?_
      refine s_ret ?_
      refine n_bl ?_
      rw [colPart_no (fun w m => made_no r w m (by simpa using h))] at q
      exact q
    obtain ⟨s, rfl⟩ : ∃ s, x = .str s := by cases x <;> first | exact ⟨_, rfl⟩ | exact absurd rfl h
    refine b_nil ?_
    -- if thing[0] == 'lost': return len(thing) == 1
    refine b_cons ?_
    refine s_if ?_
    refine nt_eqS ?_
    refine n_ixt (fun _ _ => rfl) ?_
    refine n_var 0 ?_
    refine n_int ?_
    refine ⟨_, _, _, rfl, rfl, atI_nat (j := 0) rfl, ?_⟩
    refine n_str ⟨_, _, rfl, rfl, ?_⟩
    refine ite2 (fun h => ?_) (fun h => ?_)
    · have e := of_decide_eq_true h
      subst e
      rw [colPart_lost] at q
      refine b_one ?_
      refine s_ret ?_
      refine n_eq hu ?_
      refine n_len T.z_len ?_
      refine n_var 0 ?_
      refine ⟨_, _, rfl, rfl, ?_⟩
      refine n_int ⟨_, _, rfl, rfl, rfl, rfl, ?_⟩
      rw [eqv_ints]
      have e : (((.str "lost" :: r : List PyData).length : Int) == 1) = decide (r.length = 0) := by
        rw [Bool.eq_iff_iff, beq_iff_eq, decide_eq_true_eq]
        show ((r.length + 1 : Nat) : Int) = 1 ↔ _
        omega
      show Φ ω (.dat (.bool _))
      rw [e]; exact q
    have hs : ¬ s = "lost" := fun z => h (decide_eq_true z)
    rw [colPart_else hs] at q
    refine b_nil ?_
    -- if len(thing) != 2 or not _law_is_whole(thing[1]): return False
    refine b_cons ?_
    refine s_if ?_
    refine nt_or ?_
    refine nt_ne hu ?_
    refine n_len T.z_len ?_
    refine n_var 0 ?_
    refine ⟨_, _, rfl, rfl, ?_⟩
    refine n_int ⟨_, _, rfl, rfl, rfl, rfl, ?_⟩
    rw [eqv_ints]
    by_cases hl : r.length = 1
    rotate_left
    · have e : ((((.str s :: r : List PyData).length : Nat) : Int) == 2) = false := Bool.eq_false_iff.mpr fun z => hl (by have := eq_of_beq z; simp at this; omega)
      rw [e]
      refine ite2 (fun _ => ?_) (fun h => absurd rfl h)
      refine b_one ?_
      refine s_ret ?_
      refine n_bl ?_
      rw [decide_eq_false hl] at q
      exact q
    rw [decide_eq_true hl, Bool.true_and] at q
    obtain ⟨y, rfl⟩ : ∃ y, r = [y] := by
      match r, hl with
      | [y], _ => exact ⟨y, rfl⟩
    refine ite2 (fun h => ((show ¬ ((!true) = true) by decide) h).elim) (fun _ => ?_)
    refine nt_not ?_
    refine nt_val ?_
    refine n_fn (r_is_whole T) hr ?_
    refine na_cons ?_
    refine n_ixt (fun _ _ => rfl) ?_
    refine n_var 0 ?_
    refine n_int ?_
    refine ⟨_, _, y, rfl, rfl, atI_nat (j := 1) rfl, na_nil ⟨_, rfl, _, rfl, ?_⟩⟩
    have eq1 : ([y] : List PyData).getD 0 .none = y := rfl
    rw [eq1] at q
    refine ite2 (fun h => ?_) (fun h => ?_)
    · refine b_one ?_
      refine s_ret ?_
      refine n_bl ?_
      have e : isIntD y = false := by simpa using h
      rw [e] at q
      exact q
    have hy : isIntD y = true := by simpa using h
    rw [hy, Bool.true_and] at q
    obtain ⟨i, rfl⟩ := int_of_isInt hy
    refine b_nil ?_
    -- return thing[0] == 'by' or (thing[0] == 'at' and thing[1] >= 0)
    refine b_one ?_
    refine s_ret ?_
    refine n_or ?_
    refine n_eqS ?_
    refine n_ixt (fun _ _ => rfl) ?_
    refine n_var 0 ?_
    refine n_int ?_
    refine ⟨_, _, _, rfl, rfl, atI_nat (j := 0) rfl, ?_⟩
    refine n_str ⟨_, _, rfl, rfl, _, rfl, ?_⟩
    refine ite2 (fun h => ?_) (fun h => ?_)
    · rw [h] at q; exact q
    rw [Bool.eq_false_iff.mpr h, Bool.false_or] at q
    refine n_one ?_
    refine n_and ?_
    refine n_eqS ?_
    refine n_ixt (fun _ _ => rfl) ?_
    refine n_var 0 ?_
    refine n_int ?_
    refine ⟨_, _, _, rfl, rfl, atI_nat (j := 0) rfl, ?_⟩
    refine n_str ⟨_, _, rfl, rfl, _, rfl, ?_⟩
    refine ite2 (fun h => ?_) (fun h => ?_)
    · rw [h] at q
      refine n_one ?_
      refine n_ge ?_
      refine n_ixt (fun _ _ => rfl) ?_
      refine n_var 0 ?_
      refine n_int ?_
      refine ⟨_, _, _, rfl, rfl, atI_nat (j := 1) rfl, ?_⟩
      exact n_int ⟨_, _, rfl, rfl, q⟩
    · rw [Bool.eq_false_iff.mpr h] at q; exact q
end

section
variable {P : Program} {w : World} {K : PySem.W.Frag} {mg : Str → Option Value} {base : Heap}
theorem rowPart_str {s : Str} (r : List PyData) : rowPartD (.tuple (.str s :: r)) = ((decide (r.length = 0) && (decide (s = "head") || decide (s = "foot"))) || (decide (r.length = 1) && (isIntD (r.getD 0 .none) && (decide (s = "by") || (decide (s = "last") && nnD (r.getD 0 .none)))))) := by
  unfold rowPartD
  rw [made_str, made_str, way_str, count_str]
  have e : decide (r.length + 1 = 1) = decide (r.length = 0) := by rw [Bool.eq_iff_iff]; simp
  rw [e]
  cases decide (r.length = 0) <;> cases decide (r.length = 1) <;> cases decide (s = "head") <;> cases decide (s = "foot") <;> cases decide (s = "by") <;> cases decide (s = "last") <;> cases isIntD (r.getD 0 .none) <;> cases nnD (r.getD 0 .none) <;> rfl
theorem nhb : ¬ ("head" : Str) = "by" := by decide +kernel
theorem nhl : ¬ ("head" : Str) = "last" := by decide +kernel
theorem nfb : ¬ ("foot" : Str) = "by" := by decide +kernel
theorem nfl : ¬ ("foot" : Str) = "last" := by decide +kernel
theorem name_nt {d : PyData} (h : ∀ m, isMadeD d "name" m = false) : isNameD d = false := by unfold isNameD; rw [h]; rfl
theorem range_nt {d : PyData} (h : ∀ m, isMadeD d "rows" m = false) : isRangeD d = false := by unfold isRangeD; rw [h]; rfl
theorem headfoot (s : Str) : inD (.str s) [.str "head", .str "foot"] = (decide (s = "head") || decide (s = "foot")) := by
  show (([.str "head", .str "foot"] : List PyData).map valD).any (fun y => eqV y (.str s)) = _
  show (eqV (.str "head") (.str s) || (eqV (.str "foot") (.str s) || false)) = _
  have e : ∀ a b : Str, eqV (.str a) (.str b) = decide (b = a) := fun a b => by
    rw [Bool.eq_iff_iff, decide_eq_true_eq]
    exact ⟨fun h => (eq_of_beq h).symm, fun h => by rw [h]; exact beq_self_eq_true a⟩
  rw [e, e, Bool.or_false]
theorem r_law_is_name (T : Txt K mg) : Rdy P w K mg base 3 "_law_is_name" ["thing"] (con1 fun d => .bool (isNameD d)) := by
  refine rdy T._law_is_name_ sc__law_is_name (fun cs ω Φ h => con1_len h) fun X f cdv A outer s H E hX hr cs ω Φ ⟨d, e, q⟩ => ?_
  have hu := room_u64 hr
  subst hX; subst e
  try dsimp only at q
  -- not a tuple of three that begins with 'name'
  refine b_cons ?_
  refine s_if ?_
  refine nt_w ?_
  refine nw_or ?_
  refine nt_not ?_
  refine nt_val ?_
  refine n_isi .tuple T.z_isinstance T.z_tuple ?_
  refine n_var 0 ?_
  refine ⟨d, rfl, _, rfl, ?_⟩
  refine ite2 (fun h => ?_) (fun h => ?_)
  · refine b_one ?_
    refine s_ret ?_
    refine n_bl ?_
    rw [name_nt (fun m => made_nt _ m (by simpa using h))] at q
    exact q
  obtain ⟨xs, rfl⟩ : ∃ xs, d = .tuple xs := by cases d <;> first | exact ⟨_, rfl⟩ | exact absurd rfl h
  refine nw_or ?_
  refine nt_ne hu ?_
  refine n_len T.z_len ?_
  refine n_var 0 ?_
  refine ⟨_, _, rfl, rfl, ?_⟩
  refine n_int ⟨_, _, rfl, rfl, rfl, rfl, ?_⟩
  rw [eqv_ints]
  by_cases hl : xs.length = 3
  rotate_left
  · have e : ((xs.length : Int) == 3) = false := Bool.eq_false_iff.mpr fun z => hl (by have := eq_of_beq z; omega)
    rw [e]
    refine ite2 (fun _ => ?_) (fun h => absurd rfl h)
    refine b_one ?_
    refine s_ret ?_
    refine n_bl ?_
    have e2 : isNameD (.tuple xs) = false := by
      unfold isNameD
      show ((decide (xs.length = 3) && _) && _) = false
      rw [decide_eq_false hl]; rfl
    rw [e2] at q
    exact q
  obtain ⟨x, y, z, rfl⟩ : ∃ x y z, xs = [x, y, z] := by
    match xs, hl with
    | [x, y, z], _ => exact ⟨x, y, z, rfl⟩
  refine ite2 (fun h => ((show ¬ ((!true) = true) by decide) h).elim) (fun _ => ?_)
  refine nw_or ?_
  refine nt_not ?_
  refine nt_val ?_
  refine n_isi .str T.z_isinstance T.z_str ?_
  refine n_ixt (fun _ _ => rfl) ?_
  refine n_var 0 ?_
  refine n_int ?_
  refine ⟨_, _, x, rfl, rfl, atI_nat (j := 0) rfl, x, rfl, _, rfl, ?_⟩
  refine ite2 (fun h => ?_) (fun h => ?_)
  · refine b_one ?_
    refine s_ret ?_
    refine n_bl ?_
    rw [name_nt (fun m => made_no _ _ m (by simpa using h))] at q
    exact q
  obtain ⟨s, rfl⟩ : ∃ s, x = .str s := by cases x <;> first | exact ⟨_, rfl⟩ | exact absurd rfl h
  refine nw_or1 ?_
  refine nt_neS ?_
  refine n_ixt (fun _ _ => rfl) ?_
  refine n_var 0 ?_
  refine n_int ?_
  refine ⟨_, _, _, rfl, rfl, atI_nat (j := 0) rfl, ?_⟩
  refine n_str ⟨_, _, rfl, rfl, ?_⟩
  show if (!decide (s = "name")) = true then _ else _
  by_cases hs : s = "name"
  rotate_left
  · rw [decide_eq_false hs]
    refine ite2 (fun _ => ?_) (fun h => absurd rfl h)
    refine b_one ?_
    refine s_ret ?_
    refine n_bl ?_
    rw [name_nt (fun m => by rw [made_str, decide_eq_false hs, Bool.and_false])] at q
    exact q
  subst hs
  rw [decide_eq_true rfl]
  refine ite2 (fun h => ((show ¬ ((!true) = true) by decide) h).elim) (fun _ => ?_)
  refine b_nil ?_
  have en : isNameD (.tuple [.str "name", y, z]) = (colPartD y && rowPartD z) := by
    unfold isNameD
    rw [made_str]; rfl
  rw [en] at q
  -- row = thing[2]
  refine b_cons ?_
  refine s_set 1 sc__law_is_name.nd ?_
  refine n_ixt (fun _ _ => rfl) ?_
  refine n_var 0 ?_
  refine n_int ?_
  refine ⟨_, _, z, rfl, rfl, atI_nat (j := 2) rfl, ?_⟩
  -- the parts' own form
  refine b_cons ?_
  refine s_if ?_
  refine nt_w ?_
  refine nw_or ?_
  refine nt_not ?_
  refine nt_val ?_
  refine n_fn (r_law_is_part T) hr ?_
  refine na_cons ?_
  refine n_ixt (fun _ _ => rfl) ?_
  refine n_var 0 ?_
  refine n_int ?_
  refine ⟨_, _, y, rfl, rfl, atI_nat (j := 1) rfl, na_nil ⟨y, rfl, _, rfl, ?_⟩⟩
  refine ite2 (fun h => ?_) (fun h => ?_)
  · refine b_one ?_
    refine s_ret ?_
    refine n_bl ?_
    have e : colPartD y = false := by simpa using h
    rw [e] at q; exact q
  have e : colPartD y = true := by simpa using h
  rw [e, Bool.true_and] at q
  refine nw_or ?_
  refine nt_not ?_
  refine nt_val ?_
  refine n_isi .tuple T.z_isinstance T.z_tuple ?_
  refine n_var 1 ?_
  refine ⟨z, rfl, _, rfl, ?_⟩
  refine ite2 (fun h => ?_) (fun h => ?_)
  · refine b_one ?_
    refine s_ret ?_
    refine n_bl ?_
    rw [rowPart_no (fun w m => made_nt w m (by simpa using h))] at q
    exact q
  obtain ⟨zs, rfl⟩ : ∃ zs, z = .tuple zs := by cases z <;> first | exact ⟨_, rfl⟩ | exact absurd rfl h
  refine nw_or ?_
  refine nt_eq hu ?_
  refine n_len T.z_len ?_
  refine n_var 1 ?_
  refine ⟨_, _, rfl, rfl, ?_⟩
  refine n_int ⟨_, _, rfl, rfl, rfl, rfl, ?_⟩
  rw [eqv_ints]
  cases zs with
  | nil =>
    refine ite2 (fun _ => ?_) (fun h => absurd rfl h)
    refine b_one ?_
    refine s_ret ?_
    refine n_bl ?_
    rw [rowPart_no (fun w m => made_nil w m)] at q
    exact q
  | cons x r =>
    refine ite2 (fun h => absurd (eq_of_beq h) (by show ¬ (((r.length + 1 : Nat) : Int) = 0); omega)) (fun _ => ?_)
    refine nw_or1 ?_
    refine nt_not ?_
    refine nt_val ?_
    refine n_isi .str T.z_isinstance T.z_str ?_
    refine n_ixt (fun _ _ => rfl) ?_
    refine n_var 1 ?_
    refine n_int ?_
    refine ⟨_, _, x, rfl, rfl, atI_nat (j := 0) rfl, x, rfl, _, rfl, ?_⟩
    refine ite2 (fun h => ?_) (fun h => ?_)
    · refine b_one ?_
      refine s_ret ?_
      refine n_bl ?_
      rw [rowPart_no (fun w m => made_no r w m (by simpa using h))] at q
      exact q
    obtain ⟨s, rfl⟩ : ∃ s, x = .str s := by cases x <;> first | exact ⟨_, rfl⟩ | exact absurd rfl h
    rw [rowPart_str] at q
    refine b_nil ?_
    -- if row[0] in ('head', 'foot'): return len(row) == 1
    refine b_cons ?_
    refine s_if ?_
    refine nt_in (by rfl) ?_
    refine n_ixt (fun _ _ => rfl) ?_
    refine n_var 1 ?_
    refine n_int ?_
    refine ⟨_, _, _, rfl, rfl, atI_nat (j := 0) rfl, ?_⟩
    repeat walk_at "dl"
    refine ⟨[.str "head", .str "foot"], rfl, rfl, ?_⟩
    refine ⟨.str s, _, rfl, .inl rfl, rfl, rfl, ?_⟩
    rw [headfoot]
    refine ite2 (fun h => ?_) (fun h => ?_)
    · refine b_one ?_
      refine s_ret ?_
      refine n_eq hu ?_
      refine n_len T.z_len ?_
      refine n_var 1 ?_
      refine ⟨_, _, rfl, rfl, ?_⟩
      refine n_int ⟨_, _, rfl, rfl, rfl, rfl, ?_⟩
      rw [eqv_ints]
      have e : (((.str s :: r : List PyData).length : Int) == 1) = decide (r.length = 0) := by
        rw [Bool.eq_iff_iff, beq_iff_eq, decide_eq_true_eq]
        show ((r.length + 1 : Nat) : Int) = 1 ↔ _
        omega
      show Φ ω (.dat (.bool _))
      rw [e]
      have hb : decide (s = "by") = false ∧ decide (s = "last") = false := by
        rcases (Bool.or_eq_true _ _).mp h with h | h
        · rw [of_decide_eq_true h]; exact ⟨decide_eq_false nhb, decide_eq_false nhl⟩
        · rw [of_decide_eq_true h]; exact ⟨decide_eq_false nfb, decide_eq_false nfl⟩
      rw [h, hb.1, hb.2] at q
      simpa using q
    rw [Bool.eq_false_iff.mpr h, Bool.and_false, Bool.false_or] at q
    refine b_nil ?_
    -- if len(row) != 2 or not _law_is_whole(row[1]): return False
    refine b_cons ?_
    refine s_if ?_
    refine nt_or ?_
    refine nt_ne hu ?_
    refine n_len T.z_len ?_
    refine n_var 1 ?_
    refine ⟨_, _, rfl, rfl, ?_⟩
    refine n_int ⟨_, _, rfl, rfl, rfl, rfl, ?_⟩
    rw [eqv_ints]
    by_cases hl : r.length = 1
    rotate_left
    · have e : ((((.str s :: r : List PyData).length : Nat) : Int) == 2) = false := Bool.eq_false_iff.mpr fun z => hl (by have := eq_of_beq z; simp at this; omega)
      rw [e]
      refine ite2 (fun _ => ?_) (fun h => absurd rfl h)
      refine b_one ?_
      refine s_ret ?_
      refine n_bl ?_
      rw [decide_eq_false hl] at q
      exact q
    rw [decide_eq_true hl, Bool.true_and] at q
    obtain ⟨v, rfl⟩ : ∃ v, r = [v] := by
      match r, hl with
      | [v], _ => exact ⟨v, rfl⟩
    refine ite2 (fun h => ((show ¬ ((!true) = true) by decide) h).elim) (fun _ => ?_)
    refine nt_not ?_
    refine nt_val ?_
    refine n_fn (r_is_whole T) hr ?_
    refine na_cons ?_
    refine n_ixt (fun _ _ => rfl) ?_
    refine n_var 1 ?_
    refine n_int ?_
    refine ⟨_, _, v, rfl, rfl, atI_nat (j := 1) rfl, na_nil ⟨_, rfl, _, rfl, ?_⟩⟩
    have eq1 : ([v] : List PyData).getD 0 .none = v := rfl
    rw [eq1] at q
    refine ite2 (fun h => ?_) (fun h => ?_)
    · refine b_one ?_
      refine s_ret ?_
      refine n_bl ?_
      have e : isIntD v = false := by simpa using h
      rw [e] at q
      exact q
    have hy : isIntD v = true := by simpa using h
    rw [hy, Bool.true_and] at q
    obtain ⟨i, rfl⟩ := int_of_isInt hy
    refine b_nil ?_
    refine b_one ?_
    refine s_ret ?_
    refine n_or ?_
    refine n_eqS ?_
    refine n_ixt (fun _ _ => rfl) ?_
    refine n_var 1 ?_
    refine n_int ?_
    refine ⟨_, _, _, rfl, rfl, atI_nat (j := 0) rfl, ?_⟩
    refine n_str ⟨_, _, rfl, rfl, _, rfl, ?_⟩
    refine ite2 (fun h => ?_) (fun h => ?_)
    · rw [h] at q; exact q
    rw [Bool.eq_false_iff.mpr h, Bool.false_or] at q
    refine n_one ?_
    refine n_and ?_
    refine n_eqS ?_
    refine n_ixt (fun _ _ => rfl) ?_
    refine n_var 1 ?_
    refine n_int ?_
    refine ⟨_, _, _, rfl, rfl, atI_nat (j := 0) rfl, ?_⟩
    refine n_str ⟨_, _, rfl, rfl, _, rfl, ?_⟩
    refine ite2 (fun h => ?_) (fun h => ?_)
    · rw [h] at q
      refine n_one ?_
      refine n_ge ?_
      refine n_ixt (fun _ _ => rfl) ?_
      refine n_var 1 ?_
      refine n_int ?_
      refine ⟨_, _, _, rfl, rfl, atI_nat (j := 1) rfl, ?_⟩
      exact n_int ⟨_, _, rfl, rfl, q⟩
    · rw [Bool.eq_false_iff.mpr h] at q; exact q
end

section
variable {P : Program} {w : World} {K : PySem.W.Frag} {mg : Str → Option Value} {base : Heap}
theorem r_law_is_range (T : Txt K mg) : Rdy P w K mg base 3 "_law_is_range" ["thing"] (con1 fun d => .bool (isRangeD d)) := by
  refine rdy T._law_is_range_ sc__law_is_range (fun cs ω Φ h => con1_len h) fun X f cdv A outer s H E hX hr cs ω Φ ⟨d, e, q⟩ => ?_
  have hu := room_u64 hr
  subst hX; subst e
  try dsimp only at q
  refine b_cons ?_
  refine s_if ?_
  refine nt_w ?_
  refine nw_or ?_
  refine nt_not ?_
  refine nt_val ?_
  refine n_isi .tuple T.z_isinstance T.z_tuple ?_
  refine n_var 0 ?_
  refine ⟨d, rfl, _, rfl, ?_⟩
  refine ite2 (fun h => ?_) (fun h => ?_)
  · refine b_one ?_
    refine s_ret ?_
    refine n_bl ?_
    rw [range_nt (fun m => made_nt _ m (by simpa using h))] at q
    exact q
  obtain ⟨xs, rfl⟩ : ∃ xs, d = .tuple xs := by cases d <;> first | exact ⟨_, rfl⟩ | exact absurd rfl h
  refine nw_or ?_
  refine nt_ne hu ?_
  refine n_len T.z_len ?_
  refine n_var 0 ?_
  refine ⟨_, _, rfl, rfl, ?_⟩
  refine n_int ⟨_, _, rfl, rfl, rfl, rfl, ?_⟩
  rw [eqv_ints]
  by_cases hl : xs.length = 4
  rotate_left
  · have e : ((xs.length : Int) == 4) = false := Bool.eq_false_iff.mpr fun z => hl (by have := eq_of_beq z; omega)
    rw [e]
    refine ite2 (fun _ => ?_) (fun h => absurd rfl h)
    refine b_one ?_
    refine s_ret ?_
    refine n_bl ?_
    have e2 : isRangeD (.tuple xs) = false := by
      unfold isRangeD
      show ((decide (xs.length = 4) && _) && _) = false
      rw [decide_eq_false hl]; rfl
    rw [e2] at q
    exact q
  obtain ⟨x, y, z, v, rfl⟩ : ∃ x y z v, xs = [x, y, z, v] := by
    match xs, hl with
    | [x, y, z, v], _ => exact ⟨x, y, z, v, rfl⟩
  refine ite2 (fun h => ((show ¬ ((!true) = true) by decide) h).elim) (fun _ => ?_)
  refine nw_or ?_
  refine nt_not ?_
  refine nt_val ?_
  refine n_isi .str T.z_isinstance T.z_str ?_
  refine n_ixt (fun _ _ => rfl) ?_
  refine n_var 0 ?_
  refine n_int ?_
  refine ⟨_, _, x, rfl, rfl, atI_nat (j := 0) rfl, x, rfl, _, rfl, ?_⟩
  refine ite2 (fun h => ?_) (fun h => ?_)
  · refine b_one ?_
    refine s_ret ?_
    refine n_bl ?_
    rw [range_nt (fun m => made_no _ _ m (by simpa using h))] at q
    exact q
  obtain ⟨s, rfl⟩ : ∃ s, x = .str s := by cases x <;> first | exact ⟨_, rfl⟩ | exact absurd rfl h
  refine nw_or1 ?_
  refine nt_neS ?_
  refine n_ixt (fun _ _ => rfl) ?_
  refine n_var 0 ?_
  refine n_int ?_
  refine ⟨_, _, _, rfl, rfl, atI_nat (j := 0) rfl, ?_⟩
  refine n_str ⟨_, _, rfl, rfl, ?_⟩
  show if (!decide (s = "rows")) = true then _ else _
  by_cases hs : s = "rows"
  rotate_left
  · rw [decide_eq_false hs]
    refine ite2 (fun _ => ?_) (fun h => absurd rfl h)
    refine b_one ?_
    refine s_ret ?_
    refine n_bl ?_
    rw [range_nt (fun m => by rw [made_str, decide_eq_false hs, Bool.and_false])] at q
    exact q
  subst hs
  rw [decide_eq_true rfl]
  refine ite2 (fun h => ((show ¬ ((!true) = true) by decide) h).elim) (fun _ => ?_)
  refine b_nil ?_
  have en : isRangeD (.tuple [.str "rows", y, z, v]) = (colPartD y && (isEndD z && isEndD v)) := by
    unfold isRangeD
    rw [made_str]; rfl
  rw [en] at q
  refine b_cons ?_
  refine s_if ?_
  refine nt_not ?_
  refine nt_val ?_
  refine n_fn (r_law_is_part T) hr ?_
  refine na_cons ?_
  refine n_ixt (fun _ _ => rfl) ?_
  refine n_var 0 ?_
  refine n_int ?_
  refine ⟨_, _, y, rfl, rfl, atI_nat (j := 1) rfl, na_nil ⟨y, rfl, _, rfl, ?_⟩⟩
  refine ite2 (fun h => ?_) (fun h => ?_)
  · refine b_one ?_
    refine s_ret ?_
    refine n_bl ?_
    have e : colPartD y = false := by simpa using h
    rw [e] at q; exact q
  have e : colPartD y = true := by simpa using h
  rw [e, Bool.true_and] at q
  refine b_nil ?_
  -- return [one for one in thing[2:] if one is not None and not _law_is_whole(one)] == []
  refine b_one ?_
  refine s_ret ?_
  refine n_eqE hu ?_
  refine n_lcTi 1 rfl sc__law_is_range.nd (blkOk_by (N := N__law_is_range) (sc := defScope s__law_is_range) (by decide +kernel)) ?_ (fun s' H' C cl fp => pg_name (i := 1) sc__law_is_range.nd rfl (Or.inl rfl))
  refine n_slT ?_
  refine n_var 0 ?_
  show N _ _ _ _ _
  refine n_int ⟨2, rfl, [.str "rows", y, z, v], rfl, ?_⟩
  rw [cut2]
  let bad : PyData → Bool := fun d => !isNone d && !isIntD d
  refine ⟨[z, v], rfl, fun i ω2 acc => ω2 = ω ∧ acc = ([z, v].take i).filter bad, ⟨rfl, rfl⟩, ?_, ?_⟩
  · rintro i ω2 acc D d0 hd0 ⟨rfl, rfl⟩ s' H' C cl fp
    have hz : (List.filter bad (List.take i [z, v])).length < 100000 := Nat.lt_of_le_of_lt (List.length_filter_le _ _) (by rw [List.length_take]; show min i 2 < 100000; omega)
    refine nt_and ?_
    refine nt_notN ?_
    refine n_var 1 ?_
    refine ⟨d0, rfl, ?_⟩
    refine ite2 (fun h1 => ?_) (fun h1 => ?_)
    · refine nt_not ?_
      refine nt_val ?_
      refine n_fn (r_is_whole T) hr ?_
      refine na_cons ?_
      refine n_var 1 ?_
      refine na_nil ?_
      refine ⟨d0, rfl, _, rfl, ?_⟩
      have eb : bad d0 = !isIntD d0 := by show (!isNone d0 && !isIntD d0) = _; rw [h1]; rfl
      refine ite2 (fun h => ?_) (fun h => ?_)
      · intro s2 H2 C2 cl2 fp2
        refine n_var 1 ?_
        refine ⟨d0, rfl, hz, _, rfl, rfl, ?_⟩
        rw [take_filter hd0, if_pos (by rw [eb]; exact h)]
      · refine ⟨_, rfl, rfl, ?_⟩
        rw [take_filter hd0, if_neg (by rw [eb]; exact h), List.append_nil]
    · refine ⟨_, rfl, rfl, ?_⟩
      have eb : bad d0 = false := by show (!isNone d0 && !isIntD d0) = _; rw [Bool.eq_false_iff.mpr h1]; rfl
      rw [take_filter hd0, eb]
      simp
  rintro ω2 fs ⟨rfl, hfs⟩
  have e0 : fs = [z, v].filter bad := hfs
  have bz : bad z = !isEndD z := by show (!isNone z && !isIntD z) = !(isNone z || isIntD z); rw [Bool.not_or]
  have bv : bad v = !isEndD v := by show (!isNone v && !isIntD v) = !(isNone v || isIntD v); rw [Bool.not_or]
  refine n_lst ?_
  refine na_nil ?_
  refine ⟨[], rfl, by decide, fs, rfl, rfl, ?_⟩
  have er : (isEndD z && isEndD v) = decide (fs = []) := by
    rw [e0]
    cases h1 : isEndD z <;> cases h2 : isEndD v <;> simp [List.filter, bz, bv, h1, h2]
  rw [← er]
  exact q
end

section
variable {P : Program} {w : World} {K : PySem.W.Frag} {mg : Str → Option Value} {base : Heap}
/-- a column part -/
def PartOk (d : PyData) : Prop := d = .tuple [.str "lost"] ∨ ∃ (s : Str) (n : Int), (s = "by" ∨ s = "at") ∧ d = .tuple [.str s, .int n] ∧ -100 ≤ n ∧ n ≤ 100
def dueP (d : PyData) (c : Int) : PyData := match d with
  | .tuple [.str s, .int n] => if s = "by" then .int (n + c) else .int n
  | _ => .none
theorem small_shows {n : Int} (h1 : -1000 ≤ n) (h2 : n ≤ 1000) : ShowsN 40 (.int n) := (shows_int (k := 10) (by
  have h : n.natAbs < 2 ^ 11 := by omega
  have := (Nat.log2_lt (n := n.natAbs) (k := 11)) 
  by_cases hz : n.natAbs = 0
  · rw [hz]; decide
  · have := (Nat.log2_lt hz).mpr h
    omega)).mono (by decide)
structure Neat (n k : Nat) (d : PyData) : Prop where
  lay : d.canLay0 = true
  sh : ShowsN n d
  dp : d.depth ≤ k
theorem neat_part {d : PyData} (h : PartOk d) : Neat 200 1 d := by
  rcases h with rfl | ⟨s, n, hs, rfl, h1, h2⟩
  · exact ⟨by decide +kernel, showsN_of (by decide +kernel), by decide +kernel⟩
  · have hd : (PyData.str s).depth = 0 := rfl
    have hsS : ShowsN 40 (.str s) := by rcases hs with rfl | rfl <;> exact showsN_of (by decide +kernel)
    have hl : (PyData.str s).canLay0 = true := by rcases hs with rfl | rfl <;> decide +kernel
    refine ⟨?_, (shows_tuple (n := 40) (p := 0) (ds := [.str s, .int n]) ?_).mono (show 4 + 2 * (40 + 2) ≤ 200 by decide), Nat.le_refl 1⟩
    · show ((PyData.str s).canLay0 && ((PyData.int n).canLay0 && true)) = true
      rw [hl]; rfl
    · intro e he
      simp only [List.mem_cons, List.not_mem_nil, or_false] at he
      rcases he with rfl | rfl
      · exact ⟨hsS, Nat.le_refl 0⟩
      · exact ⟨small_shows (by omega) (by omega), Nat.le_refl 0⟩
theorem due_ok {d : PyData} (h : PartOk d) {c : Int} (c0 : 0 ≤ c) (c1 : c ≤ 100) : SeqAt.shaped (dueP d c) = true ∧ Shows (dueP d c) := by
  have q : ∀ n : Int, -1000 ≤ n → n ≤ 1000 → SeqAt.shaped (.int n) = true ∧ Shows (.int n) := fun n h1 h2 => ⟨shaped_mk rfl (show 0 ≤ 64 by decide), (small_shows h1 h2).shows⟩
  rcases h with rfl | ⟨s, n, hs, rfl, h1, h2⟩
  · exact ⟨(show SeqAt.shaped .none = true by decide +kernel), (show Shows .none from (showsN_of (n := 10) (by decide +kernel)).shows)⟩
  · unfold dueP
    dsimp only
    split
    · exact q _ (by omega) (by omega)
    · exact q _ (by omega) (by omega)
/-- a name or range -/
def readD (w : Str) (part : PyData) (rest : List PyData) : PyData := .tuple (.str w :: part :: rest)
def RestOk (w : Str) (rest : List PyData) : Prop := Neat 60 0 (.str w) ∧ rest.length ≤ 2 ∧ ∀ x ∈ rest, Neat 200 1 x ∧ ∀ xs, x = .tuple xs → xs.length ≤ 2
def colC : Con := fun cs ω Φ => ∃ w part rest c, cs = [.dat (readD w part rest), .dat (.int c)] ∧ PartOk part ∧ Φ ω (.dat (dueP part c))
def withC : Con := fun cs ω Φ => ∃ w part rest p2, cs = [.dat (readD w part rest), .dat p2] ∧ rest.length ≤ 2 ∧ Φ ω (.dat (readD w p2 rest))
def dueC : Con := fun cs ω Φ => ∃ part c, cs = [.dat part, .dat (.int c)] ∧ PartOk part ∧ Φ ω (.dat (dueP part c))
theorem atI_0 {α : Type} {a : α} {r : List α} : atI (a :: r) 0 = some a := atI_nat (j := 0) rfl
theorem atI_1 {α : Type} {a b : α} {r : List α} : atI (a :: b :: r) 1 = some b := atI_nat (j := 1) rfl
theorem r_column_of (T : Txt K mg) : Rdy P w K mg base 1 "column_of" ["read", "column"] colC := by
  refine rdy T.column_of_ sc_column_of (fun cs ω Φ ⟨_, _, _, _, e, _⟩ => by rw [e]; rfl) fun X f cdv A outer s H E hX hr cs ω Φ ⟨ww, part, rest, c, e, hp, q⟩ => ?_
  subst hX; subst e
  refine b_cons ?_
  refine s_set 2 sc_column_of.nd ?_
  refine n_ixt (fun _ _ => rfl) ?_
  refine n_var 0 ?_
  refine n_int ?_
  refine ⟨_, _, part, rfl, rfl, atI_1, ?_⟩
  refine b_cons ?_
  refine s_if ?_
  refine nt_eqS ?_
  refine n_ixt (fun _ _ => rfl) ?_
  refine n_var 2 ?_
  refine n_int ?_
  rcases hp with rfl | ⟨t, n, ht, rfl, h1, h2⟩
  · refine ⟨_, _, _, rfl, rfl, atI_0, ?_⟩
    refine n_str ⟨_, _, rfl, rfl, ?_⟩
    refine ite2 (fun h => absurd h (by decide)) (fun _ => ?_)
    refine b_nil ?_
    refine b_cons ?_
    refine s_if ?_
    refine nt_eqS ?_
    refine n_ixt (fun _ _ => rfl) ?_
    refine n_var 2 ?_
    refine n_int ?_
    refine ⟨_, _, _, rfl, rfl, atI_0, ?_⟩
    refine n_str ⟨_, _, rfl, rfl, ?_⟩
    refine ite2 (fun h => absurd h (by decide)) (fun _ => ?_)
    refine b_nil ?_
    refine b_one ?_
    refine s_ret ?_
    refine n_non ?_
    exact q
  · refine ⟨_, _, _, rfl, rfl, atI_0, ?_⟩
    refine n_str ⟨_, _, rfl, rfl, ?_⟩
    refine ite2 (fun h => ?_) (fun h => ?_)
    · refine b_one ?_
      refine s_ret ?_
      refine n_add ?_
      refine n_var 1 ?_
      refine n_ixt (fun _ _ => rfl) ?_
      refine n_var 2 ?_
      refine n_int ?_
      refine ⟨_, _, _, rfl, rfl, atI_1, ?_⟩
      refine ⟨_, _, rfl, rfl, ?_⟩
      have e : dueP (.tuple [.str t, .int n]) c = .int (c + n) := by
        show (if t = "by" then PyData.int (n + c) else PyData.int n) = _
        rw [if_pos (of_decide_eq_true h), Int.add_comm]
      rw [e] at q
      exact q
    refine b_nil ?_
    have hn : ¬ t = "by" := fun z => h (decide_eq_true z)
    have ha : t = "at" := ht.resolve_left hn
    refine b_cons ?_
    refine s_if ?_
    refine nt_eqS ?_
    refine n_ixt (fun _ _ => rfl) ?_
    refine n_var 2 ?_
    refine n_int ?_
    refine ⟨_, _, _, rfl, rfl, atI_0, ?_⟩
    refine n_str ⟨_, _, rfl, rfl, ?_⟩
    refine ite2 (fun _ => ?_) (fun h => absurd (decide_eq_true ha) h)
    refine b_one ?_
    refine s_ret ?_
    refine n_ixt (fun _ _ => rfl) ?_
    refine n_var 2 ?_
    refine n_int ?_
    refine ⟨_, _, _, rfl, rfl, atI_1, ?_⟩
    have e : dueP (.tuple [.str t, .int n]) c = .int n := by
      show (if t = "by" then PyData.int (n + c) else PyData.int n) = _
      rw [if_neg hn]
    rw [e] at q
    exact q
theorem r_with_column (T : Txt K mg) : Rdy P w K mg base 1 "with_column" ["read", "part"] withC := by
  refine rdy T.with_column_ sc_with_column (fun cs ω Φ ⟨_, _, _, _, e, _⟩ => by rw [e]; rfl) fun X f cdv A outer s H E hX hr cs ω Φ ⟨ww, part, rest, p2, e, hl, q⟩ => ?_
  subst hX; subst e
  refine b_one ?_
  refine s_ret ?_
  refine n_catT ?_
  refine n_tupU ?_
  refine na_cons ?_
  refine n_ixt (fun _ _ => rfl) ?_
  refine n_var 0 ?_
  refine n_int ?_
  refine ⟨_, _, _, rfl, rfl, atI_0, ?_⟩
  refine na_cons ?_
  refine n_var 1 ?_
  refine na_nil ?_
  refine ⟨_, rfl, rfl, ?_⟩
  refine n_slT ?_
  refine n_var 0 ?_
  show N _ _ _ _ _
  refine n_int ⟨2, rfl, _, rfl, _, _, rfl, rfl, ?_⟩
  rw [cut2]
  exact ⟨by show 2 + rest.length ≤ 100000; omega, q⟩
theorem r_due (T : Txt K mg) : Rdy P w K mg base 1 "_law_due" ["part", "column"] dueC := by
  refine rdy T._law_due_ sc__law_due (fun cs ω Φ ⟨_, _, e, _⟩ => by rw [e]; rfl) fun X f cdv A outer s H E hX hr cs ω Φ ⟨part, c, e, hp, q⟩ => ?_
  subst hX; subst e
  refine b_cons ?_
  refine s_if ?_
  refine nt_eqS ?_
  refine n_ixt (fun _ _ => rfl) ?_
  refine n_var 0 ?_
  refine n_int ?_
  rcases hp with rfl | ⟨t, n, ht, rfl, h1, h2⟩
  · refine ⟨_, _, _, rfl, rfl, atI_0, ?_⟩
    refine n_str ⟨_, _, rfl, rfl, ?_⟩
    refine ite2 (fun _ => ?_) (fun h => absurd (by decide) h)
    refine b_one ?_
    refine s_ret ?_
    refine n_non ?_
    exact q
  · refine ⟨_, _, _, rfl, rfl, atI_0, ?_⟩
    refine n_str ⟨_, _, rfl, rfl, ?_⟩
    refine ite2 (fun h => ?_) (fun h => ?_)
    · have z := of_decide_eq_true h
      rcases ht with rfl | rfl <;> exact absurd z (by decide)
    refine b_nil ?_
    refine b_one ?_
    refine s_ret ?_
    refine n_ifx (ΦT := fun _ _ => True) ?_
    refine nt_eqS ?_
    refine n_ixt (fun _ _ => rfl) ?_
    refine n_var 0 ?_
    refine n_int ?_
    refine ⟨_, _, _, rfl, rfl, atI_0, ?_⟩
    refine n_str ⟨_, _, rfl, rfl, ?_⟩
    have e : dueP (.tuple [.str t, .int n]) c = if t = "by" then .int (n + c) else .int n := rfl
    rw [e] at q
    refine ite2 (fun h => ?_) (fun h => ?_)
    · refine n_add ?_
      refine n_ixt (fun _ _ => rfl) ?_
      refine n_var 0 ?_
      refine n_int ?_
      refine ⟨_, _, _, rfl, rfl, atI_1, ?_⟩
      refine n_var 1 ?_
      refine ⟨_, _, rfl, rfl, ?_⟩
      rw [if_pos (of_decide_eq_true h)] at q
      exact q
    · refine n_ixt (fun _ _ => rfl) ?_
      refine n_var 0 ?_
      refine n_int ?_
      refine ⟨_, _, _, rfl, rfl, atI_1, ?_⟩
      rw [if_neg (fun z => h (decide_eq_true z))] at q
      exact q
end

section
variable {P : Program} {w : World} {K : PySem.W.Frag} {mg : Str → Option Value} {base : Heap}
theorem lay_all : ∀ {ds : List PyData}, (∀ d ∈ ds, d.canLay0 = true) → PyData.canLayAll0 ds = true
  | [], _ => rfl
  | d :: r, h => by
    show (d.canLay0 && PyData.canLayAll0 r) = true
    rw [h d List.mem_cons_self, lay_all fun e he => h e (List.mem_cons_of_mem _ he)]; rfl
theorem neat_tuple {n k : Nat} {ds : List PyData} (h : ∀ d ∈ ds, Neat n k d) (hk : k < 50) : Neat (4 + ds.length * (n + 2)) (k + 1) (.tuple ds) := by
  have q := shows_tuple (n := n) (p := k) (ds := ds) (fun d hd => ⟨(h d hd).sh, (h d hd).dp⟩) (by omega)
  refine ⟨by simp only [PyData.canLay0]; exact lay_all fun d hd => (h d hd).lay, q, ?_⟩
  have g := (shows_all (n := n) (p := k) (ds := ds) fun d hd => ⟨(h d hd).sh, (h d hd).dp⟩).2.1
  simp only [PyData.depth]
  omega
theorem Neat.shaped {n k : Nat} {d : PyData} (h : Neat n k d) (hk : k ≤ 64) : SeqAt.shaped d = true := shaped_mk h.lay (Nat.le_trans h.dp hk)
theorem Neat.mono {n k m j : Nat} {d : PyData} (h : Neat n k d) (l : n ≤ m) (l2 : k ≤ j) : Neat m j d := ⟨h.lay, h.sh.mono l, Nat.le_trans h.dp l2⟩
theorem neat_read {ww : Str} {part : PyData} {rest : List PyData} (hp : PartOk part) (hr : RestOk ww rest) : Neat 1000 2 (readD ww part rest) := by
  have q := neat_tuple (n := 200) (k := 1) (ds := .str ww :: part :: rest) (by
    intro d hd
    simp only [List.mem_cons] at hd
    rcases hd with rfl | rfl | hd
    · exact hr.1.mono (by decide) (by decide)
    · exact neat_part hp
    · exact (hr.2.2 d hd).1) (by decide)
  refine q.mono ?_ (Nat.le_refl _)
  have : (.str ww :: part :: rest : List PyData).length = rest.length + 2 := rfl
  rw [this]
  have := hr.2.1
  omega
def rightC : Con := fun cs ω Φ => ∃ ww part rest p2 c, cs = [.dat (readD ww part rest), .dat p2, .dat (.int c)] ∧ PartOk part ∧ PartOk p2 ∧ RestOk ww rest ∧ 0 ≤ c ∧ c ≤ 100 ∧ Φ ω (.dat (.bool true))
theorem r_columns_right (T : Txt K mg) (hsm : ∃ m, base.Ns sysModules m) : RdG P w K mg base 2 "_law_columns_right" ["read", "part", "column"] rightC := by
  refine rdg T._law_columns_right_ sc__law_columns_right (fun cs ω Φ ⟨_, _, _, _, _, e, _⟩ => by rw [e]; rfl) fun X f cdv A outer s H E hX hg hr cs ω Φ ⟨ww, part, rest, p2, c, e, hp, hp2, hrs, c0, c1, q⟩ => ?_
  have hl := hrs.2.1
  have n1 := neat_read hp hrs
  have n2 := neat_read hp2 hrs
  have d1 := due_ok hp c0 c1
  have d2 := due_ok hp2 c0 c1
  subst hX; subst e
  -- other = read[:1] + (part,) + read[2:]
  refine b_cons ?_
  refine s_set 3 sc__law_columns_right.nd ?_
  refine n_catT ?_
  refine n_catT ?_
  refine n_slT ?_
  refine n_var 0 ?_
  show N _ _ _ _ _
  refine n_int ⟨1, rfl, _, rfl, ?_⟩
  refine n_tupU ?_
  refine na_cons ?_
  refine n_var 1 ?_
  refine na_nil ?_
  refine ⟨_, rfl, rfl, _, _, rfl, rfl, ?_⟩
  rw [cut1]
  refine ⟨(show 1 + 1 ≤ 100000 by decide), ?_⟩
  refine n_slT ?_
  refine n_var 0 ?_
  show N _ _ _ _ _
  refine n_int ⟨2, rfl, _, rfl, _, _, rfl, rfl, ?_⟩
  rw [cut2]
  refine ⟨by show 2 + rest.length ≤ 100000; omega, ?_⟩
  -- for again in range(2)
  refine b_cons ?_
  refine s_forR 4 PassesOwn.never rfl sc__law_columns_right.nd T.z_range ?_
  refine n_int ?_
  refine ⟨2, rfl, by decide, by decide, fun _ ω' δ' => ω' = ω ∧ ∃ x4, δ' = [some (.dat (readD ww part rest)), some (.dat p2), some (.dat (.int c)), some (.dat (readD ww p2 rest)), x4], ⟨rfl, none, rfl⟩, ?_, ?_⟩
  · rintro i ω' δ' hi ⟨rfl, x4, rfl⟩
    refine b_cons ?_
    refine s_if ?_
    refine nt_not ?_
    refine nt_val ?_
    refine n_fnG (r_alike T hsm) hg hr ?_
    refine na_cons ?_
    refine n_fn (r_column_of T) hr ?_
    refine na_cons ?_
    refine n_var 0 ?_
    refine na_cons ?_
    refine n_var 2 ?_
    refine na_nil ?_
    refine ⟨ww, part, rest, c, rfl, hp, ?_⟩
    refine na_cons ?_
    refine n_fn (r_due T) hr ?_
    refine na_cons ?_
    refine n_ixt (fun _ _ => rfl) ?_
    refine n_var 0 ?_
    refine n_int ?_
    refine ⟨_, _, _, rfl, rfl, atI_1, ?_⟩
    refine na_cons ?_
    refine n_var 2 ?_
    refine na_nil ?_
    refine ⟨part, c, rfl, hp, na_nil ⟨_, rfl, d1.1, d1.2, _, rfl, ?_⟩⟩
    refine ite2 (fun h => absurd h (by decide)) (fun _ => ?_)
    refine b_nil ?_
    refine b_cons ?_
    refine s_if ?_
    refine nt_or ?_
    refine nt_not ?_
    refine nt_val ?_
    refine n_fnG (r_alike T hsm) hg hr ?_
    refine na_cons ?_
    refine n_fn (r_with_column T) hr ?_
    refine na_cons ?_
    refine n_var 0 ?_
    refine na_cons ?_
    refine n_var 1 ?_
    refine na_nil ?_
    refine ⟨ww, part, rest, p2, rfl, hl, ?_⟩
    refine na_cons ?_
    refine n_var 3 ?_
    refine na_nil ?_
    refine ⟨_, rfl, n2.shaped (by decide), n2.sh.shows, _, rfl, ?_⟩
    refine ite2 (fun h => absurd h (by decide)) (fun _ => ?_)
    refine nt_not ?_
    refine nt_val ?_
    refine n_fnG (r_alike T hsm) hg hr ?_
    refine na_cons ?_
    refine n_fn (r_with_column T) hr ?_
    refine na_cons ?_
    refine n_var 0 ?_
    refine na_cons ?_
    refine n_ixt (fun _ _ => rfl) ?_
    refine n_var 0 ?_
    refine n_int ?_
    refine ⟨_, _, _, rfl, rfl, atI_1, na_nil ⟨ww, part, rest, part, rfl, hl, ?_⟩⟩
    refine na_cons ?_
    refine n_var 0 ?_
    refine na_nil ?_
    refine ⟨_, rfl, n1.shaped (by decide), n1.sh.shows, _, rfl, ?_⟩
    refine ite2 (fun h => absurd h (by decide)) (fun _ => ?_)
    refine b_nil ?_
    refine b_one ?_
    refine s_if ?_
    refine nt_not ?_
    refine nt_val ?_
    refine n_fnG (r_alike T hsm) hg hr ?_
    refine na_cons ?_
    refine n_fn (r_column_of T) hr ?_
    refine na_cons ?_
    refine n_var 3 ?_
    refine na_cons ?_
    refine n_var 2 ?_
    refine na_nil ?_
    refine ⟨ww, p2, rest, c, rfl, hp2, ?_⟩
    refine na_cons ?_
    refine n_fn (r_due T) hr ?_
    refine na_cons ?_
    refine n_var 1 ?_
    refine na_cons ?_
    refine n_var 2 ?_
    refine na_nil ?_
    refine ⟨p2, c, rfl, hp2, na_nil ⟨_, rfl, d2.1, d2.2, _, rfl, ?_⟩⟩
    refine ite2 (fun h => absurd h (by decide)) (fun _ => ?_)
    exact b_nil ⟨rfl, _, rfl⟩
  · rintro ω' δ' ⟨rfl, x4, rfl⟩
    refine b_one ?_
    refine s_ret ?_
    refine n_fnG (r_alike T hsm) hg hr ?_
    refine na_cons ?_
    refine n_fn (r_with_column T) hr ?_
    refine na_cons ?_
    refine n_fn (r_with_column T) hr ?_
    refine na_cons ?_
    refine n_var 0 ?_
    refine na_cons ?_
    refine n_var 1 ?_
    refine na_nil ?_
    refine ⟨ww, part, rest, p2, rfl, hl, ?_⟩
    refine na_cons ?_
    refine n_ixt (fun _ _ => rfl) ?_
    refine n_var 0 ?_
    refine n_int ?_
    refine ⟨_, _, _, rfl, rfl, atI_1, na_nil ⟨ww, p2, rest, part, rfl, hl, ?_⟩⟩
    refine na_cons ?_
    refine n_var 0 ?_
    refine na_nil ?_
    exact ⟨_, rfl, n1.shaped (by decide), n1.sh.shows, q⟩
end

section
variable {P : Program} {w : World} {K : PySem.W.Frag} {mg : Str → Option Value} {base : Heap}
def partC : Con := fun cs ω Φ => ∃ (n : Nat) (p : Addr), cs = [.raw (.ref p)] ∧ ω[n]? = some (p, bagP) ∧ ∀ d, PartOk d → Φ ω (.dat d)
def genC : Con := fun cs ω Φ => ∃ (n : Nat) (p : Addr) (s : Str), cs = [.raw (.ref p), .dat (.str s)] ∧ ω[n]? = some (p, bagP) ∧ ∀ ww part rest, PartOk part → RestOk ww rest → Φ ω (.dat (readD ww part rest))
theorem mem_ints {ns : List PyData} (h : ns.all (fun d => match d with | .int i => decide (-100 ≤ i) && decide (i ≤ 100) | _ => false) = true) {d : PyData} (hd : d ∈ ns) : ∃ i, d = .int i ∧ -100 ≤ i ∧ i ≤ 100 := by
  have g := List.all_eq_true.mp h d hd
  cases d with
  | int i =>
    simp only [Bool.and_eq_true, decide_eq_true_eq] at g
    exact ⟨i, rfl, g⟩
  | _ => exact absurd g Bool.false_ne_true
theorem r_column_part (T : Txt K mg) : Rdy P w K mg base 2 "_law_column_part" ["bag"] partC := by
  refine rdy T._law_column_part_ sc__law_column_part (fun cs ω Φ ⟨_, _, e, _⟩ => by rw [e]; rfl) fun X f cdv A outer s H E hX hr cs ω Φ ⟨n, p, e, hw, q⟩ => ?_
  have hu := room_u64 hr
  subst hX; subst e
  refine b_cons ?_
  refine s_set 1 sc__law_column_part.nd ?_
  refine n_fn (r_take T) hr ?_
  refine na_cons ?_
  refine n_var 0 ?_
  refine na_cons ?_
  refine n_int ?_
  refine na_nil ?_
  refine ⟨n, p, _, rfl, hw, by decide, by decide, fun v _ _ => ?_⟩
  refine b_cons ?_
  refine s_if ?_
  refine nt_eq hu ?_
  refine n_var 1 ?_
  refine n_int ?_
  refine ⟨_, _, rfl, rfl, rfl, rfl, ?_⟩
  refine ite2 (fun _ => ?_) (fun _ => ?_)
  · refine b_one ?_
    refine s_ret ?_
    refine n_tupU ?_
    refine na_cons ?_
    refine n_str ?_
    refine na_nil ?_
    exact ⟨_, rfl, rfl, q _ (.inl rfl)⟩
  refine b_nil ?_
  refine b_one ?_
  refine s_ret ?_
  refine n_ifx (ΦT := fun _ _ => True) ?_
  refine nt_lt ?_
  refine n_var 1 ?_
  refine n_int ?_
  refine ⟨_, _, rfl, rfl, ?_⟩
  refine ite2 (fun _ => ?_) (fun _ => ?_)
  · refine n_tupU ?_
    refine na_cons ?_
    refine n_str ?_
    refine na_cons ?_
    refine n_fn (r_take T) hr ?_
    refine na_cons ?_
    refine n_var 0 ?_
    refine na_cons ?_
    refine n_int ?_
    refine na_nil ?_
    refine ⟨n, p, _, rfl, hw, by decide, by decide, fun u _ _ => na_nil ⟨_, rfl, rfl, q _ (.inr ⟨"at", u, .inr rfl, rfl, by omega, by omega⟩)⟩⟩
  · refine n_tupU ?_
    refine na_cons ?_
    refine n_str ?_
    refine na_cons ?_
    refine n_ixl (fun _ _ => rfl) ?_
    refine n_lstU ?_
    refine na_cons ?_
    refine n_int ?_
    refine na_cons ?_
    refine n_int ?_
    refine na_cons ?_
    refine n_neg ?_
    refine n_int ?_
    refine ⟨_, rfl, ?_⟩
    refine na_cons ?_
    refine n_int ?_
    refine na_cons ?_
    refine n_sub ?_
    refine n_fn (r_take T) hr ?_
    refine na_cons ?_
    refine n_var 0 ?_
    refine na_cons ?_
    refine n_int ?_
    refine na_nil ?_
    refine ⟨n, p, _, rfl, hw, by decide, by decide, fun u _ _ => ?_⟩
    refine n_int ⟨_, _, rfl, rfl, na_nil ⟨_, rfl, rfl, ?_⟩⟩
    refine n_fn (r_take T) hr ?_
    refine na_cons ?_
    refine n_var 0 ?_
    refine na_cons ?_
    refine n_int ?_
    refine na_nil ?_
    refine ⟨n, p, _, rfl, hw, by decide, by decide, fun k k0 k1 => ?_⟩
    obtain ⟨d, h1, h2⟩ := atI_in (ds := [PyData.int 0, .int 0, .int (-1), .int 1, .int (u - 7)]) k0 k1
    refine ⟨_, _, d, rfl, rfl, h1, na_nil ?_⟩
    obtain ⟨i, rfl, i0, i1⟩ := mem_ints (ns := [PyData.int 0, .int 0, .int (-1), .int 1, .int (u - 7)]) (by
      show (true && (true && (true && (true && ((decide (-100 ≤ u - 7) && decide (u - 7 ≤ 100)) && true))))) = true
      rw [decide_eq_true (show -100 ≤ u - 7 by omega), decide_eq_true (show u - 7 ≤ 100 by omega)]; rfl) (List.mem_of_getElem? h2)
    exact ⟨_, rfl, rfl, q _ (.inr ⟨"by", i, .inl rfl, rfl, i0, i1⟩)⟩
def endOk (d : PyData) : Prop := d = .none ∨ ∃ i, d = .int i ∧ -100 ≤ i ∧ i ≤ 100
theorem neat_end {d : PyData} (h : endOk d) : Neat 200 1 d := by
  rcases h with rfl | ⟨i, rfl, h1, h2⟩
  · exact ⟨rfl, showsN_of (by decide +kernel), by decide +kernel⟩
  · exact ⟨rfl, (small_shows (by omega) (by omega)).mono (by decide), Nat.zero_le _⟩
theorem tup_end {d : PyData} (h : endOk d) : ∀ xs, d = .tuple xs → xs.length ≤ 2 := by
  rintro xs rfl
  rcases h with h | ⟨i, h, _⟩ <;> cases h
theorem neat_str {s : Str} (h1 : showsC 60 (.str s) = true) (h2 : (PyData.str s).canLay0 = true) : Neat 60 0 (.str s) := ⟨h2, showsN_of h1, Nat.le_refl 0⟩
theorem r_range (T : Txt K mg) : Rdy P w K mg base 3 "_law_range" ["bag", "place"] genC := by
  refine rdy T._law_range_ sc__law_range (fun cs ω Φ ⟨_, _, _, e, _⟩ => by rw [e]; rfl) fun X f cdv A outer s H E hX hr cs ω Φ ⟨n, p, pl, e, hw, q⟩ => ?_
  subst hX; subst e
  refine b_cons ?_
  refine s_unp 2 3 rfl sc__law_range.nd ?_
  refine n_tupU ?_
  refine na_cons ?_
  refine n_non ?_
  refine na_cons ?_
  refine n_non ?_
  refine na_nil ?_
  refine ⟨_, rfl, rfl, _, _, rfl, ?_⟩
  refine b_mid (fun ω' δ' => ω' = ω ∧ ∃ d, endOk d ∧ δ' = [some (.raw (.ref p)), some (.dat (.str pl)), some (.dat d), some (.dat .none)]) ?_ ?_
  · refine s_if ?_
    refine nt_and ?_
    refine nt_eqS ?_
    refine n_var 1 ?_
    refine n_str ?_
    refine ⟨_, _, rfl, rfl, ?_⟩
    refine ite2 (fun _ => ?_) (fun _ => b_nil ⟨rfl, _, .inl rfl, rfl⟩)
    refine nt_gt ?_
    refine n_fn (r_take T) hr ?_
    refine na_cons ?_
    refine n_var 0 ?_
    refine na_cons ?_
    refine n_int ?_
    refine na_nil ?_
    refine ⟨n, p, _, rfl, hw, by decide, by decide, fun v _ _ => ?_⟩
    refine n_int ⟨_, _, rfl, rfl, ?_⟩
    refine ite2 (fun _ => ?_) (fun _ => b_nil ⟨rfl, _, .inl rfl, rfl⟩)
    refine b_one ?_
    refine s_set 2 sc__law_range.nd ?_
    refine n_sub ?_
    refine n_fn (r_take T) hr ?_
    refine na_cons ?_
    refine n_var 0 ?_
    refine na_cons ?_
    refine n_int ?_
    refine na_nil ?_
    refine ⟨n, p, _, rfl, hw, by decide, by decide, fun u _ _ => ?_⟩
    exact n_int ⟨_, _, rfl, rfl, rfl, _, .inr ⟨u - 5, rfl, by omega, by omega⟩, rfl⟩
  rintro ω' δ' ⟨rfl, lo, hlo, rfl⟩
  refine b_mid (fun ω2 δ' => ω2 = ω' ∧ ∃ d, endOk d ∧ δ' = [some (.raw (.ref p)), some (.dat (.str pl)), some (.dat lo), some (.dat d)]) ?_ ?_
  · refine s_if ?_
    refine nt_and ?_
    refine nt_eqS ?_
    refine n_var 1 ?_
    refine n_str ?_
    refine ⟨_, _, rfl, rfl, ?_⟩
    refine ite2 (fun _ => ?_) (fun _ => b_nil ⟨rfl, _, .inl rfl, rfl⟩)
    refine nt_gt ?_
    refine n_fn (r_take T) hr ?_
    refine na_cons ?_
    refine n_var 0 ?_
    refine na_cons ?_
    refine n_int ?_
    refine na_nil ?_
    refine ⟨n, p, _, rfl, hw, by decide, by decide, fun v _ _ => ?_⟩
    refine n_int ⟨_, _, rfl, rfl, ?_⟩
    refine ite2 (fun _ => ?_) (fun _ => b_nil ⟨rfl, _, .inl rfl, rfl⟩)
    refine b_one ?_
    refine s_set 3 sc__law_range.nd ?_
    refine n_sub ?_
    refine n_fn (r_take T) hr ?_
    refine na_cons ?_
    refine n_var 0 ?_
    refine na_cons ?_
    refine n_int ?_
    refine na_nil ?_
    refine ⟨n, p, _, rfl, hw, by decide, by decide, fun u _ _ => ?_⟩
    exact n_int ⟨_, _, rfl, rfl, rfl, _, .inr ⟨u - 5, rfl, by omega, by omega⟩, rfl⟩
  rintro ω2 δ' ⟨rfl, hi, hhi, rfl⟩
  refine b_one ?_
  refine s_ret ?_
  refine n_tupU ?_
  refine na_cons ?_
  refine n_str ?_
  refine na_cons ?_
  refine n_fn (r_column_part T) hr ?_
  refine na_cons ?_
  refine n_var 0 ?_
  refine na_nil ?_
  refine ⟨n, p, rfl, hw, fun part hp => ?_⟩
  refine na_cons ?_
  refine n_var 2 ?_
  refine na_cons ?_
  refine n_var 3 ?_
  refine na_nil ?_
  refine ⟨_, rfl, rfl, q "rows" part [lo, hi] hp ⟨neat_str (by decide +kernel) (by decide +kernel), Nat.le_refl 2, ?_⟩⟩
  intro x hx
  simp only [List.mem_cons, List.not_mem_nil, or_false] at hx
  rcases hx with rfl | rfl
  · exact ⟨neat_end hlo, tup_end hlo⟩
  · exact ⟨neat_end hhi, tup_end hhi⟩
end

section
variable {P : Program} {w : World} {K : PySem.W.Frag} {mg : Str → Option Value} {base : Heap}
/-- a row part -/
def RowP (d : PyData) : Prop := Neat 200 1 d ∧ ∀ xs, d = .tuple xs → xs.length ≤ 2
theorem row1 {s : Str} (h : Neat 60 0 (.str s)) : RowP (.tuple [.str s]) :=
  ⟨(neat_tuple (n := 60) (k := 0) (ds := [.str s]) (fun d hd => by rw [List.mem_singleton.mp hd]; exact h) (by decide)).mono (show 4 + 1 * (60 + 2) ≤ 200 by decide) (Nat.le_refl _), by rintro xs e; cases e; show 1 ≤ 2; decide⟩
theorem row2 {s : Str} {n : Int} (h : Neat 60 0 (.str s)) (h1 : -100 ≤ n) (h2 : n ≤ 100) : RowP (.tuple [.str s, .int n]) :=
  ⟨(neat_tuple (n := 60) (k := 0) (ds := [.str s, .int n]) (fun d hd => by
    simp only [List.mem_cons, List.not_mem_nil, or_false] at hd
    rcases hd with rfl | rfl
    · exact h
    · exact ⟨rfl, (small_shows (by omega) (by omega)).mono (by decide), Nat.le_refl 0⟩) (by decide)).mono (show 4 + 2 * (60 + 2) ≤ 200 by decide) (Nat.le_refl _), by rintro xs e; cases e; show 2 ≤ 2; decide⟩
theorem r_name (T : Txt K mg) : Rdy P w K mg base 3 "_law_name" ["bag", "place"] genC := by
  refine rdy T._law_name_ sc__law_name (fun cs ω Φ ⟨_, _, _, e, _⟩ => by rw [e]; rfl) fun X f cdv A outer s H E hX hr cs ω Φ ⟨n, p, pl, e, hw, q⟩ => ?_
  have hu := room_u64 hr
  subst hX; subst e
  refine b_cons ?_
  refine s_set 2 sc__law_name.nd ?_
  refine n_fn (r_take T) hr ?_
  refine na_cons ?_
  refine n_var 0 ?_
  refine na_cons ?_
  refine n_int ?_
  refine na_nil ?_
  refine ⟨n, p, _, rfl, hw, by decide, by decide, fun v _ _ => ?_⟩
  refine b_cons ?_
  refine s_set 3 sc__law_name.nd ?_
  refine n_tupU ?_
  refine na_cons ?_
  refine n_str ?_
  refine na_nil ?_
  refine ⟨_, rfl, rfl, ?_⟩
  refine b_mid (fun ω' δ' => ω' = ω ∧ ∃ d, RowP d ∧ δ' = [some (.raw (.ref p)), some (.dat (.str pl)), some (.dat (.int v)), some (.dat d)]) ?_ ?_
  · refine s_if ?_
    refine nt_and ?_
    refine nt_eqS ?_
    refine n_var 1 ?_
    refine n_str ?_
    refine ⟨_, _, rfl, rfl, ?_⟩
    refine ite2 (fun _ => ?_) (fun _ => b_nil ⟨rfl, _, row1 (neat_str (by decide +kernel) (by decide +kernel)), rfl⟩)
    refine nt_gt ?_
    refine n_var 2 ?_
    refine n_int ?_
    refine ⟨_, _, rfl, rfl, ?_⟩
    refine ite2 (fun _ => ?_) (fun _ => b_nil ⟨rfl, _, row1 (neat_str (by decide +kernel) (by decide +kernel)), rfl⟩)
    refine b_one ?_
    refine s_set 3 sc__law_name.nd ?_
    refine n_tupU ?_
    refine na_cons ?_
    refine n_str ?_
    refine na_cons ?_
    refine n_ixl (fun _ _ => rfl) ?_
    refine n_lstU ?_
    refine na_cons ?_
    refine n_int ?_
    refine na_cons ?_
    refine n_neg ?_
    refine n_int ?_
    refine ⟨_, rfl, ?_⟩
    refine na_cons ?_
    refine n_neg ?_
    refine n_int ?_
    refine ⟨_, rfl, ?_⟩
    refine na_cons ?_
    refine n_int ?_
    refine na_cons ?_
    refine n_sub ?_
    refine n_fn (r_take T) hr ?_
    refine na_cons ?_
    refine n_var 0 ?_
    refine na_cons ?_
    refine n_int ?_
    refine na_nil ?_
    refine ⟨n, p, _, rfl, hw, by decide, by decide, fun u _ _ => ?_⟩
    refine n_int ⟨_, _, rfl, rfl, na_nil ⟨_, rfl, rfl, ?_⟩⟩
    refine n_fn (r_take T) hr ?_
    refine na_cons ?_
    refine n_var 0 ?_
    refine na_cons ?_
    refine n_int ?_
    refine na_nil ?_
    refine ⟨n, p, _, rfl, hw, by decide, by decide, fun k k0 k1 => ?_⟩
    obtain ⟨d, h1, h2⟩ := atI_in (ds := [PyData.int 0, .int (-1), .int (-1), .int 1, .int (u - 5)]) k0 k1
    refine ⟨_, _, d, rfl, rfl, h1, na_nil ?_⟩
    obtain ⟨i, rfl, i0, i1⟩ := mem_ints (ns := [PyData.int 0, .int (-1), .int (-1), .int 1, .int (u - 5)]) (by
      show (true && (true && (true && (true && ((decide (-100 ≤ u - 5) && decide (u - 5 ≤ 100)) && true))))) = true
      rw [decide_eq_true (show -100 ≤ u - 5 by omega), decide_eq_true (show u - 5 ≤ 100 by omega)]; rfl) (List.mem_of_getElem? h2)
    exact ⟨_, rfl, rfl, rfl, _, row2 (neat_str (by decide +kernel) (by decide +kernel)) i0 i1, rfl⟩
  rintro ω' δ' ⟨rfl, d1, hd1, rfl⟩
  refine b_mid (fun ω2 δ' => ω2 = ω' ∧ ∃ d, RowP d ∧ δ' = [some (.raw (.ref p)), some (.dat (.str pl)), some (.dat (.int v)), some (.dat d)]) ?_ ?_
  · refine s_if ?_
    refine nt_and ?_
    refine nt_eqS ?_
    refine n_var 1 ?_
    refine n_str ?_
    refine ⟨_, _, rfl, rfl, ?_⟩
    refine ite2 (fun _ => ?_) (fun _ => b_nil ⟨rfl, _, hd1, rfl⟩)
    refine nt_gt ?_
    refine n_var 2 ?_
    refine n_int ?_
    refine ⟨_, _, rfl, rfl, ?_⟩
    refine ite2 (fun _ => ?_) (fun _ => b_nil ⟨rfl, _, hd1, rfl⟩)
    refine b_one ?_
    refine s_set 3 sc__law_name.nd ?_
    refine n_ifx (ΦT := fun _ _ => True) ?_
    refine nt_eq hu ?_
    refine n_var 2 ?_
    refine n_int ?_
    refine ⟨_, _, rfl, rfl, rfl, rfl, ?_⟩
    refine ite2 (fun _ => ?_) (fun _ => ?_)
    · refine n_tupU ?_
      refine na_cons ?_
      refine n_str ?_
      refine na_nil ?_
      exact ⟨_, rfl, rfl, rfl, _, row1 (neat_str (by decide +kernel) (by decide +kernel)), rfl⟩
    refine n_tupU ?_
    refine na_cons ?_
    refine n_str ?_
    refine na_cons ?_
    refine n_ixl (fun _ _ => rfl) ?_
    refine n_lstU ?_
    refine na_cons ?_
    refine n_int ?_
    refine na_cons ?_
    refine n_int ?_
    refine na_cons ?_
    refine n_fn (r_take T) hr ?_
    refine na_cons ?_
    refine n_var 0 ?_
    refine na_cons ?_
    refine n_int ?_
    refine na_nil ?_
    refine ⟨n, p, _, rfl, hw, by decide, by decide, fun u _ _ => ?_⟩
    refine na_nil ⟨_, rfl, rfl, ?_⟩
    refine n_fn (r_take T) hr ?_
    refine na_cons ?_
    refine n_var 0 ?_
    refine na_cons ?_
    refine n_int ?_
    refine na_nil ?_
    refine ⟨n, p, _, rfl, hw, by decide, by decide, fun k k0 k1 => ?_⟩
    obtain ⟨d, h1, h2⟩ := atI_in (ds := [PyData.int 0, .int 0, .int u]) k0 k1
    refine ⟨_, _, d, rfl, rfl, h1, na_nil ?_⟩
    obtain ⟨i, rfl, i0, i1⟩ := mem_ints (ns := [PyData.int 0, .int 0, .int u]) (by
      show (true && (true && ((decide (-100 ≤ u) && decide (u ≤ 100)) && true))) = true
      rw [decide_eq_true (show -100 ≤ u by omega), decide_eq_true (show u ≤ 100 by omega)]; rfl) (List.mem_of_getElem? h2)
    exact ⟨_, rfl, rfl, rfl, _, row2 (neat_str (by decide +kernel) (by decide +kernel)) i0 i1, rfl⟩
  rintro ω2 δ' ⟨rfl, d2, hd2, rfl⟩
  refine b_one ?_
  refine s_ret ?_
  refine n_tupU ?_
  refine na_cons ?_
  refine n_str ?_
  refine na_cons ?_
  refine n_fn (r_column_part T) hr ?_
  refine na_cons ?_
  refine n_var 0 ?_
  refine na_nil ?_
  refine ⟨n, p, rfl, hw, fun part hp => ?_⟩
  refine na_cons ?_
  refine n_var 3 ?_
  refine na_nil ?_
  refine ⟨_, rfl, rfl, q "name" part [d2] hp ⟨neat_str (by decide +kernel) (by decide +kernel), by show 1 ≤ 2; decide, ?_⟩⟩
  intro x hx
  rw [List.mem_singleton.mp hx]
  exact hd2
end

section
variable {P : Program} {w : World} {K : PySem.W.Frag} {mg : Str → Option Value} {base : Heap}
theorem It.mono {n k m j : Nat} {d : PyData} (h : It n k d) (l : n ≤ m) (l2 : k ≤ j) : It m j d := ⟨h.1.mono l, Nat.le_trans h.2 l2⟩
theorem Neat.it {n k : Nat} {d : PyData} (h : Neat n k d) : It n k d := ⟨h.sh, h.dp⟩
theorem cut_mem {α : Type} {xs : List α} {i j : Option Int} {x : α} (h : x ∈ cutD xs i j) : x ∈ xs := List.mem_of_mem_drop (List.mem_of_mem_take h)
theorem cut_len {α : Type} (xs : List α) (i j : Option Int) : (cutD xs i j).length ≤ xs.length := by
  unfold cutD
  rw [List.length_take, List.length_drop]
  omega
theorem it_tup {n k m : Nat} {ds : List PyData} (h : ∀ d ∈ ds, It n k d) (hm : ds.length ≤ m) (hk : k < 50) : It (4 + m * (n + 2)) (k + 1) (.tuple ds) := by
  have q := shows_tuple (n := n) (p := k) (ds := ds) h (by omega)
  refine ⟨q.mono (by have := Nat.mul_le_mul_right (n + 2) hm; omega), ?_⟩
  have g := (shows_all (n := n) (p := k) (ds := ds) h).2.1
  simp only [PyData.depth]
  omega
theorem it_lst {n k m : Nat} {ds : List PyData} (h : ∀ d ∈ ds, It n k d) (hm : ds.length ≤ m) (hk : k < 50) : It (4 + m * (n + 2)) (k + 1) (.list ds) := by
  have q := shows_list (n := n) (p := k) (ds := ds) h (by omega)
  refine ⟨q.mono (by have := Nat.mul_le_mul_right (n + 2) hm; omega), ?_⟩
  have g := (shows_all (n := n) (p := k) (ds := ds) h).2.1
  simp only [PyData.depth]
  omega
def bentC (Cn : List PyData → Prop) (b k : Nat) : Con := fun cs ω Φ => ∃ (n : Nat) (p : Addr) (ds : List PyData), cs = [.raw (.ref p), .dat (.tuple ds)] ∧ ω[n]? = some (p, bagP) ∧ Cn ds ∧ ∀ d, It b k d → Φ ω (.dat d)
theorem isT_tup {d : PyData} (h : isT .tuple d = true) : ∃ xs, d = .tuple xs := by
  cases d <;> first | exact ⟨_, rfl⟩ | exact absurd h (by show ¬ (false = true); decide)
def C0 (ds : List PyData) : Prop := ds.length ≤ 4 ∧ (∀ d ∈ ds, It 1000 3 d) ∧ ∀ xs, .tuple xs ∉ ds
def C1 (ds : List PyData) : Prop := ds.length ≤ 4 ∧ (∀ d ∈ ds, It 1000 3 d) ∧ ∀ xs, .tuple xs ∈ ds → C0 xs
theorem flat_c0 {xs : List PyData} (h : Neat 200 1 (.tuple xs)) (hl : xs.length ≤ 2) : C0 xs := by
  have hA : ShowsA 200 0 xs := by
    have h1 := h.sh.ok
    have h2 := h.dp
    have h3 := h.sh.sz
    simp only [PyData.depth] at h2
    refine ⟨h1, by omega, ?_⟩
    have : lenB (.tuple xs) = 4 + lenA xs := rfl
    omega
  refine ⟨by omega, fun d hd => It.mono ⟨(shows_mem hA (by decide) hd).1, (shows_mem hA (by decide) hd).2⟩ (by decide) (by decide), fun ys hy => ?_⟩
  have := (shows_mem hA (by decide) hy).2
  simp only [PyData.depth] at this
  omega
theorem read_c1 {ww : Str} {part : PyData} {rest : List PyData} (hp : PartOk part) (hr : RestOk ww rest) : C1 (.str ww :: part :: rest) := by
  refine ⟨by have := hr.2.1; show rest.length + 1 + 1 ≤ 4; omega, fun d hd => ?_, fun xs hx => ?_⟩
  · simp only [List.mem_cons] at hd
    rcases hd with rfl | rfl | hd
    · exact hr.1.it.mono (by decide) (by decide)
    · exact (neat_part hp).it.mono (by decide) (by decide)
    · exact (hr.2.2 d hd).1.it.mono (by decide) (by decide)
  · simp only [List.mem_cons] at hx
    rcases hx with hx | hx | hx
    · cases hx
    · subst hx
      refine flat_c0 (neat_part hp) ?_
      rcases hp with h | ⟨s, n, _, h, _⟩ <;> cases h
      · show 1 ≤ 2; decide
      · show 2 ≤ 2; decide
    · exact flat_c0 (hr.2.2 _ hx).1 ((hr.2.2 _ hx).2 xs rfl)
end

section
variable {P : Program} {w : World} {K : PySem.W.Frag} {mg : Str → Option Value} {base : Heap}
theorem bent_step (T : Txt K mg) (lv : Nat) (h3 : 3 ≤ lv) (Cn Cs : List PyData → Prop) (b k : Nat) (hb : 10000 ≤ b) (hk : 20 ≤ k) (hk2 : k < 50)
    (hC : ∀ ds, Cn ds → ds.length ≤ 4 ∧ ∀ d ∈ ds, It 1000 3 d) (hS : ∀ ds xs, Cn ds → .tuple xs ∈ ds → Cs xs) (R : Rdy P w K mg base lv "_law_bent" ["bag", "thing"] (bentC Cs b k)) :
    Rdy P w K mg base (lv + 1) "_law_bent" ["bag", "thing"] (bentC Cn (4 + 9 * (b + 2)) (k + 1)) := by
  refine rdy T._law_bent_ sc__law_bent (fun cs ω Φ ⟨_, _, _, e, _⟩ => by rw [e]; rfl) fun X f cdv A outer s H E hX hr cs ω Φ ⟨n, p, ds, e, hw, hCn, q⟩ => ?_
  have hu := room_u64 hr
  obtain ⟨hl, hd⟩ := hC ds hCn
  have hd2 : ∀ d ∈ ds, It b k d := fun d z => (hd d z).mono (by omega) (by omega)
  subst hX; subst e
  -- kind, found = _law_take(bag, 7), list(thing)
  refine b_cons ?_
  refine s_par 2 3 rfl sc__law_bent.nd ?_
  refine na_cons ?_
  refine n_fn (r_take T) hr (hjk := by omega) ?_
  refine na_cons ?_
  refine n_var 0 ?_
  refine na_cons ?_
  refine n_int ?_
  refine na_nil ?_
  refine ⟨n, p, _, rfl, hw, by decide, by decide, fun kind _ _ => ?_⟩
  refine na_cons ?_
  refine n_listOfO T.z_list ?_
  refine n_var 1 ?_
  refine ⟨ds, .inr rfl, fun p2 => na_nil ⟨_, _, rfl, ?_⟩⟩
  -- at = _law_take(bag, len(found) + 1)
  refine b_cons ?_
  refine s_set 4 sc__law_bent.nd ?_
  refine n_fn (r_take T) hr (hjk := by omega) ?_
  refine na_cons ?_
  refine n_var 0 ?_
  refine na_cons ?_
  refine n_add ?_
  refine n_lenO 3 0 T.z_len rfl rfl ?_
  refine n_int ?_
  refine ⟨_, _, rfl, rfl, na_nil ⟨n + 1, p, _, rfl, hw, by omega, by omega, fun at_ a0 a1 => ?_⟩⟩
  -- if kind == 0: return found
  refine b_cons ?_
  refine s_if ?_
  refine nt_eq hu ?_
  refine n_var 2 ?_
  refine n_int ?_
  refine ⟨_, _, rfl, rfl, rfl, rfl, ?_⟩
  refine ite2 (fun _ => ?_) (fun _ => ?_)
  · refine b_share 3 rfl ?_
    refine b_one ?_
    refine s_ret ?_
    refine n_var 3 ?_
    exact q _ (it_lst hd2 (by omega) hk2)
  refine b_nil ?_
  -- if kind == 1: return tuple(found[:at] + found[at + 1:])
  refine b_cons ?_
  refine s_if ?_
  refine nt_eq hu ?_
  refine n_var 2 ?_
  refine n_int ?_
  refine ⟨_, _, rfl, rfl, rfl, rfl, ?_⟩
  refine ite2 (fun _ => ?_) (fun _ => ?_)
  · refine b_share 3 rfl ?_
    refine b_one ?_
    refine s_ret ?_
    refine n_tupleOf T.z_tuple ?_
    refine n_catL ?_
    refine n_slL ?_
    refine n_var 3 ?_
    show N _ _ _ _ _
    refine n_var 4 ?_
    refine ⟨at_, rfl, ds, rfl, ?_⟩
    refine n_slL ?_
    refine n_var 3 ?_
    show N _ _ _ _ _
    refine n_add ?_
    refine n_var 4 ?_
    refine n_int ?_
    refine ⟨_, _, rfl, rfl, _, rfl, ds, rfl, _, _, rfl, rfl, ?_⟩
    have c1 := cut_len ds none (some at_)
    have c2 := cut_len ds (some (at_ + 1)) none
    refine ⟨by omega, _, .inl rfl, q _ ?_⟩
    refine it_tup (fun d z => hd2 d ?_) ?_ hk2
    · rcases List.mem_append.mp z with z | z <;> exact cut_mem z
    · rw [List.length_append]; omega
  refine b_nil ?_
  -- if kind == 2: ..
  refine b_cons ?_
  refine s_if ?_
  refine nt_eq hu ?_
  refine n_var 2 ?_
  refine n_int ?_
  refine ⟨_, _, rfl, rfl, rfl, rfl, ?_⟩
  refine ite2 (fun _ => ?_) (fun _ => ?_)
  · refine b_share 3 rfl ?_
    refine b_one ?_
    refine s_ret ?_
    refine n_tupleOf T.z_tuple ?_
    refine n_catL ?_
    refine n_catL ?_
    refine n_slL ?_
    refine n_var 3 ?_
    show N _ _ _ _ _
    refine n_var 4 ?_
    refine ⟨at_, rfl, ds, rfl, ?_⟩
    refine n_lstU ?_
    refine na_cons ?_
    refine n_fn (r_one T) hr (hjk := by omega) ?_
    refine na_cons ?_
    refine n_var 0 ?_
    refine na_cons ?_
    refine n_catL ?_
    refine n_var 3 ?_
    repeat walk_at "dx"
    refine ⟨by show ds.length + 4 ≤ 100000; omega, na_nil ⟨n, p, _, rfl, hw, by simp, by rw [List.length_append]; show ds.length + 4 ≤ 1000; omega, fun d hdm => na_nil ?_⟩⟩
    have hdm2 : It b k d := by
      rcases List.mem_append.mp hdm with z | z
      · exact hd2 d z
      · exact (it_of (n := 1000) (k := 5) (List.all_eq_true.mp (by decide +kernel) d z)).mono (by omega) (by omega)
    refine ⟨_, rfl, rfl, _, _, rfl, rfl, ?_⟩
    have c1 := cut_len ds none (some at_)
    refine ⟨by show _ + 1 ≤ 100000; omega, ?_⟩
    refine n_slL ?_
    refine n_var 3 ?_
    show N _ _ _ _ _
    refine n_var 4 ?_
    refine ⟨at_, rfl, ds, rfl, _, _, rfl, rfl, ?_⟩
    have c2 := cut_len ds (some at_) none
    refine ⟨by rw [List.length_append]; show _ + 1 + _ ≤ 100000; omega, _, .inl rfl, q _ ?_⟩
    refine it_tup (fun e z => ?_) ?_ hk2
    · rcases List.mem_append.mp z with z | z
      · rcases List.mem_append.mp z with z | z
        · exact hd2 e (cut_mem z)
        · rw [List.mem_singleton.mp z]; exact hdm2
      · exact hd2 e (cut_mem z)
    · rw [List.length_append, List.length_append]; show _ + 1 + _ ≤ 9; omega
  refine b_nil ?_
  -- if kind < 5 and at < len(found) and isinstance(found[at], tuple): .. elif at < len(found): ..
  refine b_mid (fun ω' δ' => ∃ ds', ω' = (p2, lstP ds') :: ω ∧ (∃ x5, δ' = [some (.raw (.ref p)), some (.dat (.tuple ds)), some (.dat (.int kind)), some (.raw (.ref p2)), some (.dat (.int at_)), x5]) ∧ ds'.length ≤ 4 ∧ ∀ d ∈ ds', It b k d) ?_ ?_
  rotate_left
  · rintro ω' δ' ⟨ds', rfl, ⟨x5, rfl⟩, hl', hd'⟩
    refine b_share 3 rfl ?_
    refine b_one ?_
    refine s_ret ?_
    refine n_tupleOf T.z_tuple ?_
    refine n_var 3 ?_
    exact ⟨ds', .inl rfl, q _ (it_tup hd' (by omega) hk2)⟩
  refine s_if (NT.imp (Φ := fun ω1 c => ω1 = (p2, lstP ds) :: ω ∧ (c = true → ∃ xs, atI ds at_ = some (.tuple xs))) ?_ ?_)
  · refine nt_w ?_
    refine nw_and ?_
    refine nt_lt ?_
    refine n_var 2 ?_
    refine n_int ?_
    refine ⟨_, _, rfl, rfl, ?_⟩
    refine ite2 (fun _ => ?_) (fun _ => ⟨rfl, fun h => absurd h (by decide)⟩)
    refine nw_and ?_
    refine nt_lt ?_
    refine n_var 4 ?_
    refine n_lenO 3 0 T.z_len rfl rfl ?_
    refine ⟨_, _, rfl, rfl, ?_⟩
    refine ite2 (fun h => ?_) (fun _ => ⟨rfl, fun h => absurd h (by decide)⟩)
    obtain ⟨d, g1, g2⟩ := atI_in a0 (of_decide_eq_true h)
    refine nw_and1 ?_
    refine nt_val ?_
    refine n_isi .tuple T.z_isinstance T.z_tuple ?_
    refine n_ixO (fun _ _ => rfl) 3 0 rfl ?_
    refine n_var 4 ?_
    refine ⟨ds, at_, d, rfl, rfl, g1, d, rfl, _, rfl, rfl, fun h2 => ?_⟩
    obtain ⟨xs, rfl⟩ := isT_tup h2
    exact ⟨xs, g1⟩
  rintro ω1 c ⟨rfl, hc⟩
  refine ite2 (fun h => ?_) (fun _ => ?_)
  · obtain ⟨xs, g1⟩ := hc h
    obtain ⟨j, g2, g3⟩ := atI_ix g1
    refine b_one ?_
    refine s_setO 3 0 rfl ?_
    refine n_fn R hr (hjk := Nat.le_refl _) ?_
    refine na_cons ?_
    refine n_var 0 ?_
    refine na_cons ?_
    refine n_ixO (fun _ _ => rfl) 3 0 rfl ?_
    refine n_var 4 ?_
    refine ⟨ds, at_, _, rfl, rfl, g1, na_nil ⟨n + 1, p, xs, rfl, hw, hS ds xs hCn (List.mem_of_getElem? g3), fun d hdd => ?_⟩⟩
    refine n_var 4 ?_
    refine ⟨ds, d, at_, j, rfl, rfl, rfl, g2, ds.set j d, rfl, ⟨_, rfl⟩, by rw [List.length_set]; exact hl, ?_⟩
    intro e he
    rcases List.mem_or_eq_of_mem_set he with z | rfl
    · exact hd2 e z
    · exact hdd
  refine b_one ?_
  refine s_if ?_
  refine nt_lt ?_
  refine n_var 4 ?_
  refine n_lenO 3 0 T.z_len rfl rfl ?_
  refine ⟨_, _, rfl, rfl, ?_⟩
  refine ite2 (fun h => ?_) (fun _ => b_nil ⟨ds, rfl, ⟨_, rfl⟩, hl, hd2⟩)
  obtain ⟨d0, g1, _⟩ := atI_in a0 (of_decide_eq_true h)
  obtain ⟨j, g2, _⟩ := atI_ix g1
  refine b_cons ?_
  refine s_set 5 sc__law_bent.nd ?_
  repeat walk_at "dx"
  refine b_cons ?_
  refine s_set 5 sc__law_bent.nd ?_
  refine n_catL ?_
  refine n_var 5 ?_
  repeat walk_at "dx"
  refine b_one ?_
  refine s_setO 3 0 rfl ?_
  refine n_fn (r_one T) hr (hjk := by omega) ?_
  refine na_cons ?_
  refine n_var 0 ?_
  refine na_cons ?_
  refine n_catL ?_
  refine n_var 5 ?_
  refine n_lstU ?_
  refine na_cons ?_
  refine n_fn (r_odd T) hr (hjk := by omega) ?_
  refine na_cons ?_
  refine n_var 0 ?_
  refine na_nil ?_
  refine ⟨n + 1, p, rfl, hw, fun o ho => na_nil ⟨_, rfl, rfl, _, _, rfl, rfl, by simp, na_nil ⟨n + 1, p, _, rfl, hw, by simp, by simp, fun d hdm => ?_⟩⟩⟩
  have hdm2 : It b k d := by
    rcases List.mem_append.mp hdm with z | z
    · exact (it_of (n := 1000) (k := 5) (List.all_eq_true.mp (by decide +kernel) d z)).mono (by omega) (by omega)
    · rw [List.mem_singleton.mp z]; exact ho.mono hb hk
  refine n_var 4 ?_
  refine ⟨ds, d, at_, j, rfl, rfl, rfl, g2, ds.set j d, rfl, ⟨_, rfl⟩, by rw [List.length_set]; exact hl, ?_⟩
  intro e he
  rcases List.mem_or_eq_of_mem_set he with z | rfl
  · exact hd2 e z
  · exact hdm2
theorem r_bent (T : Txt K mg) : Rdy P w K mg base 5 "_law_bent" ["bag", "thing"] (bentC C1 (4 + 9 * (4 + 9 * (10000 + 2) + 2)) (20 + 1 + 1)) := by
  have R0 : Rdy P w K mg base 3 "_law_bent" ["bag", "thing"] (bentC (fun _ => False) 10000 20) :=
    rdy (k := 2) T._law_bent_ sc__law_bent (fun cs ω Φ ⟨_, _, _, _, _, h, _⟩ => h.elim) fun X f cdv A outer s H E hX hr cs ω Φ ⟨_, _, _, _, _, h, _⟩ => h.elim
  have R1 := bent_step T 3 (Nat.le_refl _) C0 (fun _ => False) 10000 20 (Nat.le_refl _) (Nat.le_refl _) (by decide) (fun ds h => ⟨h.1, h.2.1⟩) (fun ds xs h hx => h.2.2 xs hx) R0
  have R2 := bent_step T 4 (by decide) C1 C0 _ _ (by decide) (by decide) (by decide) (fun ds h => ⟨h.1, h.2.1⟩) (fun ds xs h hx => h.2.2 xs hx) R1
  exact R2
end

section
variable {P : Program} {w : World} {K : PySem.W.Frag} {mg : Str → Option Value} {base : Heap}
theorem shaped2 (a b : Bool) : SeqAt.shaped (.list [.bool a, .bool b]) = true := by cases a <;> cases b <;> decide +kernel
theorem shows2 (a b : Bool) : Shows (.list [.bool a, .bool b]) := by cases a <;> cases b <;> exact (showsN_of (n := 100) (by decide +kernel)).shows
def Inv12 (p : Addr) (ns : List Int) : Nat → Ow → DL.Env → Prop := fun _ ω' δ' => ω' = [(p, bagP)] ∧ ∃ x2 x3 x4 x5 x6 x7, δ' = [some (.scr ns), some (.raw (.ref p)), x2, x3, x4, x5, x6, x7]
theorem law_ok {f : Addr} {fd : FuncData} (RB : Rdy P w K mg base 5 "_law_bent" ["bag", "thing"] (bentC C1 (4 + 9 * (4 + 9 * (10000 + 2) + 2)) (20 + 1 + 1))) (F : Fun K "law" "law" s_law f fd) (T : Txt K mg) (hsm : ∃ m, base.Ns sysModules m) : FnG P w K mg base 12 f fd ["script"] (spD K lawC) := by
  refine okG F sc_law (fun cs ω Φ h => lawC_len h) fun X cdv A outer s H E hX hg hr cs ω Φ ⟨ns, e, hn, hω, q⟩ => ?_
  have hu := room_u64 hr
  have hu2 := room_u hr
  subst hX; subst e; subst hω
  refine b_cons ?_
  refine s_set 1 sc_law.nd ?_
  refine n_fn (r_bag T) hr ?_
  refine na_cons ?_
  refine n_var 0 ?_
  refine na_nil ?_
  refine ⟨ns, rfl, fun p => ?_⟩
  refine b_cons ?_
  refine s_forR 2 PassesOwn.never rfl sc_law.nd T.z_range ?_
  refine n_int ?_
  refine ⟨14, rfl, by decide, by decide, Inv12 p ns, ⟨rfl, none, none, none, none, none, none, rfl⟩, ?_, ?_⟩
  rotate_left
  · rintro ω' δ' ⟨rfl, x2, x3, x4, x5, x6, x7, rfl⟩
    refine b_one ?_
    refine s_ret ?_
    refine n_drop ?_
    refine n_bl ?_
    exact ⟨p, bagP, [], rfl, q⟩
  rintro i ω' δ' hi ⟨rfl, x2, x3, x4, x5, x6, x7, rfl⟩
  -- place = _law_one(bag, ["head", "body", "foot"])
  refine b_cons ?_
  refine s_set 3 sc_law.nd ?_
  refine n_fn (r_one T) hr ?_
  refine na_cons ?_
  refine n_var 1 ?_
  refine na_cons ?_
  refine n_lstU ?_
  repeat walk_at "dl"
  refine ⟨_, rfl, rfl, na_nil ⟨0, p, _, rfl, rfl, List.cons_ne_nil _ _, Nat.le_of_ble_eq_true rfl, fun dp hdp => ?_⟩⟩
  obtain ⟨pl, rfl⟩ : ∃ pl, dp = .str pl := by
    simp only [List.mem_cons, List.not_mem_nil, or_false] at hdp
    rcases hdp with rfl | rfl | rfl <;> exact ⟨_, rfl⟩
  -- thing = ..
  refine b_cons ?_
  refine s_set 4 sc_law.nd ?_
  refine N.imp (Φ := fun ω1 c => ω1 = [(p, bagP)] ∧ ∃ ww part rest, c = .dat (readD ww part rest) ∧ PartOk part ∧ RestOk ww rest) ?_ ?_
  · refine n_ifx (ΦT := fun _ _ => True) ?_
    refine nt_and ?_
    refine nt_neS ?_
    refine n_var 3 ?_
    refine n_str ?_
    refine ⟨_, _, rfl, rfl, ?_⟩
    refine ite2 (fun _ => ?_) (fun _ => ?_)
    · refine nt_eq hu ?_
      refine n_fn (r_take T) hr ?_
      refine na_cons ?_
      refine n_var 1 ?_
      refine na_cons ?_
      refine n_int ?_
      refine na_nil ?_
      refine ⟨0, p, _, rfl, rfl, by decide, by decide, fun v _ _ => ?_⟩
      refine n_int ⟨_, _, rfl, rfl, rfl, rfl, ?_⟩
      refine ite2 (fun _ => ?_) (fun _ => ?_)
      · refine n_fn (r_range T) hr ?_
        refine na_cons ?_
        refine n_var 1 ?_
        refine na_cons ?_
        refine n_var 3 ?_
        refine na_nil ?_
        exact ⟨0, p, pl, rfl, rfl, fun ww part rest h1 h2 => ⟨rfl, ww, part, rest, rfl, h1, h2⟩⟩
      · refine n_fn (r_name T) hr ?_
        refine na_cons ?_
        refine n_var 1 ?_
        refine na_cons ?_
        refine n_var 3 ?_
        refine na_nil ?_
        exact ⟨0, p, pl, rfl, rfl, fun ww part rest h1 h2 => ⟨rfl, ww, part, rest, rfl, h1, h2⟩⟩
    · refine n_fn (r_name T) hr ?_
      refine na_cons ?_
      refine n_var 1 ?_
      refine na_cons ?_
      refine n_var 3 ?_
      refine na_nil ?_
      exact ⟨0, p, pl, rfl, rfl, fun ww part rest h1 h2 => ⟨rfl, ww, part, rest, rfl, h1, h2⟩⟩
  rintro ω1 c ⟨rfl, ww, part, rest, rfl, hp, hrs⟩
  -- if not _law_columns_right(thing, _law_column_part(bag), _law_take(bag, 8))
  refine b_cons ?_
  refine s_if ?_
  refine nt_not ?_
  refine nt_val ?_
  refine n_fnG (r_columns_right T hsm) hg hr ?_
  refine na_cons ?_
  refine n_var 4 ?_
  refine na_cons ?_
  refine n_fn (r_column_part T) hr ?_
  refine na_cons ?_
  refine n_var 1 ?_
  refine na_nil ?_
  refine ⟨0, p, rfl, rfl, fun p2 hp2 => ?_⟩
  refine na_cons ?_
  refine n_fn (r_take T) hr ?_
  refine na_cons ?_
  refine n_var 1 ?_
  refine na_cons ?_
  refine n_int ?_
  refine na_nil ?_
  refine ⟨0, p, _, rfl, rfl, by decide, by decide, fun col c0 c1 => na_nil ⟨ww, part, rest, p2, col, rfl, hp, hp2, hrs, c0, by omega, _, rfl, ?_⟩⟩
  refine ite2 (fun h => absurd h (by decide)) (fun _ => ?_)
  refine b_nil ?_
  -- if _law_take(bag, 4) > 0: thing = _law_bent(bag, thing)
  refine b_mid (fun ω' δ' => ω' = [(p, bagP)] ∧ ∃ x2 x3 d, δ' = [some (.scr ns), some (.raw (.ref p)), x2, x3, some (.dat d), x5, x6, x7] ∧ ShowsN 900000 d) ?_ ?_
  · refine s_if ?_
    refine nt_gt ?_
    refine n_fn (r_take T) hr ?_
    refine na_cons ?_
    refine n_var 1 ?_
    refine na_cons ?_
    refine n_int ?_
    refine na_nil ?_
    refine ⟨0, p, _, rfl, rfl, by decide, by decide, fun v _ _ => ?_⟩
    refine n_int ⟨_, _, rfl, rfl, ?_⟩
    refine ite2 (fun _ => ?_) (fun _ => b_nil ⟨rfl, _, _, _, rfl, (neat_read hp hrs).sh.mono (by decide)⟩)
    refine b_one ?_
    refine s_set 4 sc_law.nd ?_
    refine n_fn RB hr ?_
    refine na_cons ?_
    refine n_var 1 ?_
    refine na_cons ?_
    refine n_var 4 ?_
    refine na_nil ?_
    exact ⟨0, p, _, rfl, rfl, read_c1 hp hrs, fun d hd => ⟨rfl, _, _, d, rfl, hd.1.mono (by decide)⟩⟩
  rintro ω' δ' ⟨rfl, x2, x3, d, rfl, hd⟩
  -- if _law_take(bag, 6) == 0: thing = _law_odd(bag)
  refine b_mid (fun ω' δ' => ω' = [(p, bagP)] ∧ ∃ d, δ' = [some (.scr ns), some (.raw (.ref p)), x2, x3, some (.dat d), x5, x6, x7] ∧ ShowsN 900000 d) ?_ ?_
  · refine s_if ?_
    refine nt_eq hu ?_
    refine n_fn (r_take T) hr ?_
    refine na_cons ?_
    refine n_var 1 ?_
    refine na_cons ?_
    refine n_int ?_
    refine na_nil ?_
    refine ⟨0, p, _, rfl, rfl, by decide, by decide, fun v _ _ => ?_⟩
    refine n_int ⟨_, _, rfl, rfl, rfl, rfl, ?_⟩
    refine ite2 (fun _ => ?_) (fun _ => b_nil ⟨rfl, _, rfl, hd⟩)
    refine b_one ?_
    refine s_set 4 sc_law.nd ?_
    refine n_fn (r_odd T) hr ?_
    refine na_cons ?_
    refine n_var 1 ?_
    refine na_nil ?_
    exact ⟨0, p, rfl, rfl, fun d2 h2 => ⟨rfl, d2, rfl, h2.1.mono (by decide)⟩⟩
  clear hd
  rintro ω' δ' ⟨rfl, d, rfl, hd⟩
  -- due, shown = [..], repr(thing)
  refine b_cons ?_
  refine s_par 5 6 rfl sc_law.nd ?_
  refine na_cons ?_
  refine n_lstU ?_
  refine na_cons ?_
  refine n_fn (r_law_is_name T) hr ?_
  refine na_cons ?_
  refine n_var 4 ?_
  refine na_nil ?_
  refine ⟨d, rfl, ?_⟩
  refine na_cons ?_
  refine n_fn (r_law_is_range T) hr ?_
  refine na_cons ?_
  refine n_var 4 ?_
  refine na_nil ?_
  refine ⟨d, rfl, ?_⟩
  refine na_nil ?_
  refine ⟨_, rfl, rfl, ?_⟩
  refine na_cons ?_
  refine n_repr hg hsm hu2 T.z_repr ?_
  refine n_var 4 ?_
  refine ⟨d, rfl, hd.shows, ?_⟩
  refine na_nil ?_
  refine ⟨_, _, rfl, ?_⟩
  -- for again in range(2)
  refine b_one ?_
  refine s_forR 7 PassesOwn.never rfl sc_law.nd T.z_range ?_
  refine n_int ?_
  refine ⟨2, rfl, by decide, by decide, fun _ ω' δ' => ω' = [(p, bagP)] ∧ ∃ x7, δ' = [some (.scr ns), some (.raw (.ref p)), x2, x3, some (.dat d), some (.dat (.list [.bool (isNameD d), .bool (isRangeD d)])), some (.dat (.str d.shown)), x7], ⟨rfl, _, rfl⟩, ?_, ?_⟩
  rotate_left
  · rintro ω' δ' ⟨rfl, x7, rfl⟩
    exact ⟨rfl, _, _, _, _, _, _, rfl⟩
  rintro i ω' δ' hi ⟨rfl, x7, rfl⟩
  refine b_one ?_
  refine s_if ?_
  refine nt_or ?_
  refine nt_not ?_
  refine nt_val ?_
  refine n_fnG (r_alike T hsm) hg hr ?_
  refine na_cons ?_
  refine n_lstU ?_
  refine na_cons ?_
  refine n_fn (r_is_name T) hr ?_
  refine na_cons ?_
  refine n_var 4 ?_
  refine na_nil ?_
  refine ⟨d, rfl, ?_⟩
  refine na_cons ?_
  refine n_fn (r_is_range T) hr ?_
  refine na_cons ?_
  refine n_var 4 ?_
  refine na_nil ?_
  refine ⟨d, rfl, ?_⟩
  refine na_nil ?_
  refine ⟨_, rfl, rfl, ?_⟩
  refine na_cons ?_
  refine n_var 5 ?_
  refine na_nil ?_
  refine ⟨_, rfl, shaped2 _ _, shows2 _ _, _, rfl, ?_⟩
  refine ite2 (fun h => absurd h (by decide)) (fun _ => ?_)
  refine nt_neS ?_
  refine n_repr hg hsm hu2 T.z_repr ?_
  refine n_var 4 ?_
  refine ⟨d, rfl, hd.shows, ?_⟩
  refine n_var 6 ?_
  refine ⟨_, _, rfl, rfl, ?_⟩
  refine ite2 (fun h => absurd h (by rw [decide_eq_true rfl]; decide)) (fun _ => ?_)
  exact b_nil ⟨rfl, _, rfl⟩
end

end K12

open PySem PySem.W PyProof.Rows L2 DL
set_option maxRecDepth 100000 in
set_option maxHeartbeats 0 in
theorem PySem.Challenge.cw_longsheet_k12_names_known_holds : PySem.Challenge.rw_longsheet_k12_names_known.Holds := by
  w_on; o_law; k_head; (case hw => w_witness2)
  k_fill
  refine DL.law_end (l := PySem.Challenge.rw_longsheet_k12_names_known) (k := 12) (x := "script") rfl rfl ⟨rfl, by decide, by decide⟩ (fun w h Y => PySem.W.kIn_of Y) (by decide +kernel) ?F
  case F =>
    intro w mg fa h KX G hmg
    have f_is_integer : Has (KOf KX) mg "is_integer" K12.s_is_integer ["thing"] := by
      delta L2.KOf
      refine' has_mk KX G ?a ?l ?c ?k (fun _ _ _ _ _ _ us hl => match us, hl with | [_], _ => rfl)
      (case a => k_is); (case l => k_is); (case c => k_is); (case k => k_is)
    have f_is_made : Has (KOf KX) mg "is_made" K12.s_is_made ["thing", "word", "many"] := by
      delta L2.KOf
      refine' has_mk KX G ?a ?l ?c ?k (fun _ _ _ _ _ _ us hl => match us, hl with | [_, _, _], _ => rfl)
      (case a => k_is); (case l => k_is); (case c => k_is); (case k => k_is)
    have f_is_name : Has (KOf KX) mg "is_name" K12.s_is_name ["thing"] := by
      delta L2.KOf
      refine' has_mk KX G ?a ?l ?c ?k (fun _ _ _ _ _ _ us hl => match us, hl with | [_], _ => rfl)
      (case a => k_is); (case l => k_is); (case c => k_is); (case k => k_is)
    have f_is_range : Has (KOf KX) mg "is_range" K12.s_is_range ["thing"] := by
      delta L2.KOf
      refine' has_mk KX G ?a ?l ?c ?k (fun _ _ _ _ _ _ us hl => match us, hl with | [_], _ => rfl)
      (case a => k_is); (case l => k_is); (case c => k_is); (case k => k_is)
    have f_column_of : Has (KOf KX) mg "column_of" K12.s_column_of ["read", "column"] := by
      delta L2.KOf
      refine' has_mk KX G ?a ?l ?c ?k (fun _ _ _ _ _ _ us hl => match us, hl with | [_, _], _ => rfl)
      (case a => k_is); (case l => k_is); (case c => k_is); (case k => k_is)
    have f_with_column : Has (KOf KX) mg "with_column" K12.s_with_column ["read", "part"] := by
      delta L2.KOf
      refine' has_mk KX G ?a ?l ?c ?k (fun _ _ _ _ _ _ us hl => match us, hl with | [_, _], _ => rfl)
      (case a => k_is); (case l => k_is); (case c => k_is); (case k => k_is)
    have f__is_column_part : Has (KOf KX) mg "_is_column_part" K12.s__is_column_part ["thing"] := by
      delta L2.KOf
      refine' has_mk KX G ?a ?l ?c ?k (fun _ _ _ _ _ _ us hl => match us, hl with | [_], _ => rfl)
      (case a => k_is); (case l => k_is); (case c => k_is); (case k => k_is)
    have f__is_row_part : Has (KOf KX) mg "_is_row_part" K12.s__is_row_part ["thing"] := by
      delta L2.KOf
      refine' has_mk KX G ?a ?l ?c ?k (fun _ _ _ _ _ _ us hl => match us, hl with | [_], _ => rfl)
      (case a => k_is); (case l => k_is); (case c => k_is); (case k => k_is)
    have f__is_way : Has (KOf KX) mg "_is_way" K12.s__is_way ["thing"] := by
      delta L2.KOf
      refine' has_mk KX G ?a ?l ?c ?k (fun _ _ _ _ _ _ us hl => match us, hl with | [_], _ => rfl)
      (case a => k_is); (case l => k_is); (case c => k_is); (case k => k_is)
    have f__is_count : Has (KOf KX) mg "_is_count" K12.s__is_count ["thing", "word"] := by
      delta L2.KOf
      refine' has_mk KX G ?a ?l ?c ?k (fun _ _ _ _ _ _ us hl => match us, hl with | [_, _], _ => rfl)
      (case a => k_is); (case l => k_is); (case c => k_is); (case k => k_is)
    have f__is_end : Has (KOf KX) mg "_is_end" K12.s__is_end ["thing"] := by
      delta L2.KOf
      refine' has_mk KX G ?a ?l ?c ?k (fun _ _ _ _ _ _ us hl => match us, hl with | [_], _ => rfl)
      (case a => k_is); (case l => k_is); (case c => k_is); (case k => k_is)
    have f__law_bag : Has (KOf KX) mg "_law_bag" K12.s__law_bag ["script"] := by
      delta L2.KOf
      refine' has_mk KX G ?a ?l ?c ?k (fun _ _ _ _ _ _ us hl => match us, hl with | [_], _ => rfl)
      (case a => k_is); (case l => k_is); (case c => k_is); (case k => k_is)
    have f__law_take : Has (KOf KX) mg "_law_take" K12.s__law_take ["bag", "many"] := by
      delta L2.KOf
      refine' has_mk KX G ?a ?l ?c ?k (fun _ _ _ _ _ _ us hl => match us, hl with | [_, _], _ => rfl)
      (case a => k_is); (case l => k_is); (case c => k_is); (case k => k_is)
    have f__law_one : Has (KOf KX) mg "_law_one" K12.s__law_one ["bag", "some"] := by
      delta L2.KOf
      refine' has_mk KX G ?a ?l ?c ?k (fun _ _ _ _ _ _ us hl => match us, hl with | [_, _], _ => rfl)
      (case a => k_is); (case l => k_is); (case c => k_is); (case k => k_is)
    have f__law_alike : Has (KOf KX) mg "_law_alike" K12.s__law_alike ["found", "due"] := by
      delta L2.KOf
      refine' has_mk KX G ?a ?l ?c ?k (fun _ _ _ _ _ _ us hl => match us, hl with | [_, _], _ => rfl)
      (case a => k_is); (case l => k_is); (case c => k_is); (case k => k_is)
    have f__law_nested : Has (KOf KX) mg "_law_nested" K12.s__law_nested ["many"] := by
      delta L2.KOf
      refine' has_mk KX G ?a ?l ?c ?k (fun _ _ _ _ _ _ us hl => match us, hl with | [_], _ => rfl)
      (case a => k_is); (case l => k_is); (case c => k_is); (case k => k_is)
    have f__law_odd : Has (KOf KX) mg "_law_odd" K12.s__law_odd ["bag"] := by
      delta L2.KOf
      refine' has_mk KX G ?a ?l ?c ?k (fun _ _ _ _ _ _ us hl => match us, hl with | [_], _ => rfl)
      (case a => k_is); (case l => k_is); (case c => k_is); (case k => k_is)
    have f__law_column_part : Has (KOf KX) mg "_law_column_part" K12.s__law_column_part ["bag"] := by
      delta L2.KOf
      refine' has_mk KX G ?a ?l ?c ?k (fun _ _ _ _ _ _ us hl => match us, hl with | [_], _ => rfl)
      (case a => k_is); (case l => k_is); (case c => k_is); (case k => k_is)
    have f__law_range : Has (KOf KX) mg "_law_range" K12.s__law_range ["bag", "place"] := by
      delta L2.KOf
      refine' has_mk KX G ?a ?l ?c ?k (fun _ _ _ _ _ _ us hl => match us, hl with | [_, _], _ => rfl)
      (case a => k_is); (case l => k_is); (case c => k_is); (case k => k_is)
    have f__law_name : Has (KOf KX) mg "_law_name" K12.s__law_name ["bag", "place"] := by
      delta L2.KOf
      refine' has_mk KX G ?a ?l ?c ?k (fun _ _ _ _ _ _ us hl => match us, hl with | [_, _], _ => rfl)
      (case a => k_is); (case l => k_is); (case c => k_is); (case k => k_is)
    have f__law_is_whole : Has (KOf KX) mg "_law_is_whole" K12.s__law_is_whole ["thing"] := by
      delta L2.KOf
      refine' has_mk KX G ?a ?l ?c ?k (fun _ _ _ _ _ _ us hl => match us, hl with | [_], _ => rfl)
      (case a => k_is); (case l => k_is); (case c => k_is); (case k => k_is)
    have f__law_is_part : Has (KOf KX) mg "_law_is_part" K12.s__law_is_part ["thing"] := by
      delta L2.KOf
      refine' has_mk KX G ?a ?l ?c ?k (fun _ _ _ _ _ _ us hl => match us, hl with | [_], _ => rfl)
      (case a => k_is); (case l => k_is); (case c => k_is); (case k => k_is)
    have f__law_is_name : Has (KOf KX) mg "_law_is_name" K12.s__law_is_name ["thing"] := by
      delta L2.KOf
      refine' has_mk KX G ?a ?l ?c ?k (fun _ _ _ _ _ _ us hl => match us, hl with | [_], _ => rfl)
      (case a => k_is); (case l => k_is); (case c => k_is); (case k => k_is)
    have f__law_is_range : Has (KOf KX) mg "_law_is_range" K12.s__law_is_range ["thing"] := by
      delta L2.KOf
      refine' has_mk KX G ?a ?l ?c ?k (fun _ _ _ _ _ _ us hl => match us, hl with | [_], _ => rfl)
      (case a => k_is); (case l => k_is); (case c => k_is); (case k => k_is)
    have f__law_bent : Has (KOf KX) mg "_law_bent" K12.s__law_bent ["bag", "thing"] := by
      delta L2.KOf
      refine' has_mk KX G ?a ?l ?c ?k (fun _ _ _ _ _ _ us hl => match us, hl with | [_, _], _ => rfl)
      (case a => k_is); (case l => k_is); (case c => k_is); (case k => k_is)
    have f__law_due : Has (KOf KX) mg "_law_due" K12.s__law_due ["part", "column"] := by
      delta L2.KOf
      refine' has_mk KX G ?a ?l ?c ?k (fun _ _ _ _ _ _ us hl => match us, hl with | [_, _], _ => rfl)
      (case a => k_is); (case l => k_is); (case c => k_is); (case k => k_is)
    have f__law_columns_right : Has (KOf KX) mg "_law_columns_right" K12.s__law_columns_right ["read", "part", "column"] := by
      delta L2.KOf
      refine' has_mk KX G ?a ?l ?c ?k (fun _ _ _ _ _ _ us hl => match us, hl with | [_, _, _], _ => rfl)
      (case a => k_is); (case l => k_is); (case c => k_is); (case k => k_is)
    have f_law : Has (KOf KX) mg "law" K12.s_law ["script"] := by
      delta L2.KOf
      refine' has_mk KX G ?a ?l ?c ?k (fun _ _ _ _ _ _ us hl => match us, hl with | [_], _ => rfl)
      (case a => k_is); (case l => k_is); (case c => k_is); (case k => k_is)
    have z_isinstance : mg "isinstance" = none := PySem.W.mg_none_of KX G (by k_is)
    have z_int : mg "int" = none := PySem.W.mg_none_of KX G (by k_is)
    have z_bool : mg "bool" = none := PySem.W.mg_none_of KX G (by k_is)
    have z_str : mg "str" = none := PySem.W.mg_none_of KX G (by k_is)
    have z_tuple : mg "tuple" = none := PySem.W.mg_none_of KX G (by k_is)
    have z_list : mg "list" = none := PySem.W.mg_none_of KX G (by k_is)
    have z_len : mg "len" = none := PySem.W.mg_none_of KX G (by k_is)
    have z_range : mg "range" = none := PySem.W.mg_none_of KX G (by k_is)
    have z_abs : mg "abs" = none := PySem.W.mg_none_of KX G (by k_is)
    have z_repr : mg "repr" = none := PySem.W.mg_none_of KX G (by k_is)
    have T : K12.Txt (KOf KX) mg := ⟨f_is_integer, f_is_made, f_is_name, f_is_range, f_column_of, f_with_column, f__is_column_part, f__is_row_part, f__is_way, f__is_count, f__is_end, f__law_bag, f__law_take, f__law_one, f__law_alike, f__law_nested, f__law_odd, f__law_column_part, f__law_range, f__law_name, f__law_is_whole, f__law_is_part, f__law_is_name, f__law_is_range, f__law_bent, f__law_due, f__law_columns_right, f_law, z_isinstance, z_int, z_bool, z_str, z_tuple, z_list, z_len, z_range, z_abs, z_repr⟩
    obtain ⟨f, fd, F, hf, hb⟩ := f_law.ex
    have e := hmg.symm.trans hf
    cases e
    exact ⟨fd, law_binds F (fun _ _ _ _ _ _ _ => rfl), fun base _ _ hsm => K12.law_ok (K12.r_bent T) F T hsm⟩
