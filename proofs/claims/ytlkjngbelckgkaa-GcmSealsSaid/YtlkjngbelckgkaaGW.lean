/-
  Gcm's laws over the landed gcm and aes.
-/
import Derived.Test.YtlkjngbelckgkaaGcmHB
import Derived.Test.YtlkjngbelckgkaaGcmS3
import Derived.Test.YtlkjngbelckgkaaGcmN
namespace Go.Proofs.Ytlkjngbelckgkaa
open Go.RowKit

theorem gcmSeals_walk (kl nl : List Int) (ov : Value) (ol : List Int) (pv : Value) (pl : List Int) (w : World) (hkl : B16 kl) (hnl : N12 nl) (ho : Sl .u8 w ov ol) (hp : Sl .u8 w pv pl) :
    Calls Try.prog 3 #[arr kl, arr nl, ov, pv] w fun e w' => e = .returned (.bool true) ∧ Keep [] w w' := gcmSeals_any gcmC anewC kl nl ov ol pv pl w hkl hnl ho hp
theorem gcmAny_walk (kl nl : List Int) (ov : Value) (ol : List Int) (pv : Value) (pl : List Int) (w : World) (hkl : B16 kl) (hnl : N12 nl) (ho : Sl .u8 w ov ol) (hp : Sl .u8 w pv pl) :
    Calls Try.prog 4 #[arr kl, arr nl, ov, pv] w fun e w' => e = .returned (.bool true) ∧ Keep [] w w' := gcmAny_any gcmC anewC kl nl ov ol pv pl w hkl hnl ho hp
end Go.Proofs.Ytlkjngbelckgkaa
